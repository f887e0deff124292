import PyProof.Rows.All
import Wide.All
import OpenK.AllK
import Wide.FinOn
import Lean
import PyProof.EqAt
import PyProof.EqKinds
import PyProof.TupleCall
import PyProof.NeKinds
import KE.KRevIter
import PyProof.Rows.SumAny
import PySem.Challenge.RW_catchhall_k17_whole_each_two
set_option Elab.async false
set_option linter.all false
set_option maxRecDepth 100000
/-! THE HAND LAYER, for ints, bools, texts, own classes, LISTS and tuples (index, slices, in, append, pop ..), calls, loops. Paste it whole ahead of your own text; what your proof does not reach may be deleted. -/
namespace L2
open PySem PySem.Spec PyProof.Rows

/-- a key: an int or a str -/
noncomputable abbrev Key := Sum Int Str
noncomputable def keyIs : Key → Value → Bool
  | .inl k, v => Value.isInt k v
  | .inr x, v => Value.isStrOf x v
noncomputable def keyH (w : World) : Key → Int
  | .inl k => hashInt k
  | .inr x => hashStr w x
theorem keyIs_shape : ∀ {k : Key} {v : Value}, keyIs k v = true → (∃ i t, k = Sum.inl i ∧ v = Value.int i t) ∨ (∃ x t, k = Sum.inr x ∧ v = Value.str x t)
  | .inl i, v, h => by
    obtain ⟨t, e⟩ := Value.isInt_shape (k := i) (v := v) h
    exact .inl ⟨i, t, rfl, e⟩
  | .inr x, v, h => by
    obtain ⟨t, e⟩ := Value.isStrOf_shape (x := x) (v := v) h
    exact .inr ⟨x, t, rfl, e⟩
theorem key_ll (a b : Int) : decide ((Sum.inl a : Key) = Sum.inl b) = (a == b) := by
  by_cases e : a = b
  · subst e; simp
  · have h : ¬ (Sum.inl a : Key) = Sum.inl b := fun q => e (Sum.inl.inj q)
    rw [decide_eq_false h]
    exact (beq_eq_false_iff_ne.mpr e).symm
theorem key_rr (a b : Str) : decide ((Sum.inr a : Key) = Sum.inr b) = decide (a = b) := by
  by_cases e : a = b
  · subst e; simp
  · have h : ¬ (Sum.inr a : Key) = Sum.inr b := fun q => e (Sum.inr.inj q)
    rw [decide_eq_false h, decide_eq_false e]
theorem key_lr (a : Int) (b : Str) : decide ((Sum.inl a : Key) = Sum.inr b) = false := decide_eq_false (fun q => nomatch q)
theorem key_rl (a : Str) (b : Int) : decide ((Sum.inr a : Key) = Sum.inl b) = false := decide_eq_false (fun q => nomatch q)

noncomputable def mixKind (prog : Program) (w : World) : PySem.KeyKind prog w Key where
  is := keyIs
  hash := keyH w
  inj := fun v a b ha hb => by
    rcases keyIs_shape ha with ⟨i, t, rfl, rfl⟩ | ⟨x, t, rfl, rfl⟩
    · rcases keyIs_shape hb with ⟨j, u, rfl, e⟩ | ⟨y, u, rfl, e⟩
      · injection e with e1 _; rw [e1]
      · exact nomatch e
    · rcases keyIs_shape hb with ⟨j, u, rfl, e⟩ | ⟨y, u, rfl, e⟩
      · exact nomatch e
      · injection e with e1 _; rw [e1]
  byValue := fun k v h => by
    rcases keyIs_shape h with ⟨i, t, rfl, rfl⟩ | ⟨x, t, rfl, rfl⟩ <;> rfl
  pyHash := fun hv h => by
    rcases keyIs_shape hv with ⟨i, t, rfl, rfl⟩ | ⟨x, t, rfl, rfl⟩
    · exact wpAny_pyHash_int h
    · exact wpAny_pyHash_str h
  eqBool := fun hu hv h => by
    rcases keyIs_shape hu with ⟨i, t, rfl, rfl⟩ | ⟨x, t, rfl, rfl⟩
    · rcases keyIs_shape hv with ⟨j, u, rfl, rfl⟩ | ⟨y, u, rfl, rfl⟩
      · rw [key_ll] at h; exact wpAny_eqBool_int h
      · rw [key_lr] at h; exact SeqAt.EqAt.int_str i t y u _ _ _ _ h
    · rcases keyIs_shape hv with ⟨j, u, rfl, rfl⟩ | ⟨y, u, rfl, rfl⟩
      · rw [key_rl] at h; exact SeqAt.EqAt.str_int x t j u _ _ _ _ h
      · rw [key_rr] at h; exact wpAny_eqBool_str h
  «strs» := fun k x t v h => by
    rcases keyIs_shape h with ⟨i, u, rfl, e⟩ | ⟨y, u, rfl, e⟩
    · exact nomatch e
    · injection e with e1 _
      subst e1
      cases v <;> rfl

end L2

namespace L2
open PySem PySem.Spec PyProof.Rows

/-- a value, without the heap -/
inductive V where
  | non | bl (b : Bool) | int (i : Int) | str (x : Str) | byt (b : Array UInt8) | flt (b : UInt64) | ref (a : Addr) | ty (n : String)
  deriving DecidableEq

noncomputable def RelV : V → Value → Prop
  | .non, u => u = Value.none
  | .bl b, u => u = Value.bool b
  | .int i, u => ∃ t, u = Value.int i t
  | .str x, u => ∃ t, u = Value.str x t
  | .byt b, u => ∃ t, u = Value.bytes b t
  | .flt b, u => ∃ t, u = Value.float b t
  | .ref a, u => u = Value.ref a
  | .ty n, u => u = Value.type n

noncomputable abbrev Vals : List V → List Value → Prop := Paired RelV
theorem Vals.length {xs : List V} {us : List Value} (r : Vals xs us) : xs.length = us.length := Paired.length r
theorem Vals.get : ∀ {xs : List V} {us : List Value} {i : Nat} {x : V}, Vals xs us → xs[i]? = some x → ∃ u, us[i]? = some u ∧ RelV x u
  | _, _, _, _, .nil, e => by simp at e
  | _, _, 0, _, .cons r _, e => by simp at e; subst e; exact ⟨_, rfl, r⟩
  | _, _, i + 1, x, .cons _ t, e => by
    obtain ⟨u, h1, h2⟩ := Vals.get (i := i) (x := x) t (by simpa using e)
    exact ⟨u, by simpa using h1, h2⟩
theorem Vals.set {x : V} {u : Value} (r : RelV x u) : ∀ {xs : List V} {us : List Value} (i : Nat), Vals xs us → Vals (xs.set i x) (us.set i u)
  | _, _, _, .nil => .nil
  | _, _, 0, .cons _ t => .cons r t
  | _, _, i + 1, .cons q t => .cons q (Vals.set r i t)
theorem Vals.append : ∀ {xs ys : List V} {us ws : List Value}, Vals xs us → Vals ys ws → Vals (xs ++ ys) (us ++ ws)
  | _, _, _, _, .nil, s => s
  | _, _, _, _, .cons r t, s => .cons r (Vals.append t s)
theorem Vals.take : ∀ {xs : List V} {us : List Value} (n : Nat), Vals xs us → Vals (xs.take n) (us.take n)
  | _, _, 0, _ => .nil
  | _, _, _ + 1, .nil => .nil
  | _, _, n + 1, .cons r t => .cons r (Vals.take n t)
theorem Vals.drop : ∀ {xs : List V} {us : List Value} (n : Nat), Vals xs us → Vals (xs.drop n) (us.drop n)
  | _, _, 0, r => r
  | _, _, _ + 1, .nil => .nil
  | _, _, n + 1, .cons _ t => Vals.drop n t
noncomputable def RelO : Option V → Option Value → Prop
  | some v, some u => RelV v u
  | none, none => True
  | _, _ => False
noncomputable def KV {κ : Type} : List (κ × V) → List (κ × Value) → Prop := Paired fun (p : κ × V) (q : κ × Value) => p.1 = q.1 ∧ RelV p.2 q.2

/-- a key of a dict (00_mix): an int or a text -/
noncomputable def kV : Key → V
  | .inl i => .int i
  | .inr x => .str x

/-- what stands at a tracked address -/
inductive HO where
  /-- a list -/
  | lst (xs : List V)
  /-- a tuple (never changes) -/
  | tup (xs : List V)
  /-- a dict whose keys are ints and texts; one whose keys are tuples of ints and texts (the empty one is both) -/
  | dK (kvs : List (Key × V)) | dT (kvs : List (List Key × V))
  /-- a set of ints: its members, its size -/
  | set (S : Int → Bool) (n : Nat)
  /-- an instance of the class at C, its dict at dx, its attributes -/
  | ins (C dx : Addr) (fs : List (Str × V))
  /-- the dict of the instance at x -/
  | own (x : Addr)
  /-- the dict of an exception -/
  | xd (fs : List (Str × V))
  /-- a bound method, f of x -/
  | met (f x : Addr)
  /-- a range object lo, lo + 1, .. below hi -/
  | rng (lo hi : Int)
  /-- a thing that is known to the object (the script; a dict while a loop walks it): read, never written while it is so -/
  | frz (o : Obj) (u : HO)
  /-- a code object's table -/
  | tbl (ps : Array Value)
  /-- any other thing, by what is true of its one object (a def of one's own: SetO a S n := HO.ext fun h => ..) -/
  | ext (φ : Heap → Prop)

noncomputable abbrev Hp := Addr → Option HO
noncomputable def upd (H : Hp) (a : Addr) (o : HO) : Hp := fun b => if b = a then some o else H b
theorem upd_same {H : Hp} {a : Addr} {o : HO} : upd H a o a = some o := by unfold upd; rw [if_pos rfl]
theorem upd_ne {H : Hp} {a b : Addr} {o : HO} (h : b ≠ a) : upd H a o b = H b := by unfold upd; rw [if_neg h]
/-- two objects of different content stand apart -/
theorem ne_of {H : Hp} {a b : Addr} {o u : HO} (h : H a = some o) (h' : H b = some u) (d : o ≠ u) : a ≠ b := by
  intro e; subst e; rw [h] at h'; exact d (Option.some.inj h')
theorem ne_of_none {H : Hp} {a b : Addr} {o : HO} (h : H a = some o) (h' : H b = none) : a ≠ b := by
  intro e; subst e; rw [h] at h'; cases h'

section
variable (P : Program) (w : World)
noncomputable def ObjOk (H : Hp) (h : Heap) (a : Addr) : HO → Prop
  | .lst xs => xs.length ≤ sizeLine ∧ ∃ (its : List Value) (n : Nat), Vals xs its ∧ h.get? a = some { cls := .type "list", data := .seq its.toArray n }
  | .tup xs => xs.length ≤ sizeLine ∧ ∃ its : List Value, Vals xs its ∧ IsTup h a its.toArray
  | .dK kvs => kvs.length ≤ sizeLine ∧ (a == sysModules) = false ∧ ∃ vs, KV kvs vs ∧ h.DictOf (mixKind P w) a vs
  | .dT kvs => kvs.length ≤ sizeLine ∧ (a == sysModules) = false ∧ ∃ xs : List (List Key × Addr × Value),
      Paired (fun (p : List Key × V) (q : List Key × Addr × Value) => p.1 = q.1 ∧ H q.2.1 = some (.tup (p.1.map kV)) ∧ RelV p.2 q.2.2) kvs xs ∧
      ∃ o es ep, h.get? a = some o ∧ o.ExactDict ∧ o.data = .dict es ep ∧ es.toList = xs.map (entryOfKey (tupleKind (mixKind P w))) ∧ (xs.map (·.1)).Nodup
  | .set S n => h.SetOf (intKind P w) a S n
  | .ins C dx fs => H dx = some (.own a) ∧ fs.length ≤ 1000 ∧ dx ≠ a ∧ h.get? a = some (PySem.W.instObj C dx) ∧
      ∃ mA, h.Ns1 dx mA ∧ (∀ f, RelO (fs.lookup f) (mA f)) ∧ PySem.Within mA (fs.map (·.1))
  | .own _ => ∃ o, h.get? a = some o
  | .xd fs => ∃ mA, h.Ns1 a mA ∧ ∀ f, RelO (fs.lookup f) (mA f)
  | .rng lo hi => ∃ t u v, h.get? a = some { cls := .type "range", data := .fields #[.int lo t, .int hi u, .int 1 v] }
  | .frz o u => h.get? a = some o ∧ ObjOk H h a u
  | .tbl ps => h.get? a = some { cls := .none, data := .fields ps }
  | .met f x => h.get? a = some (PySem.W.methodObj (.ref f) (.ref x))
  | .ext φ => φ h ∧ (∃ o, h.get? a = some o) ∧ ∀ h1 h2 : Heap, φ h1 → (∀ o, h1.get? a = some o → h2.get? a = some o) → φ h2
/-- the abstract heap is held -/
noncomputable def HOk (H : Hp) (h : Heap) : Prop := ∀ a o, H a = some o → ObjOk P w H h a o
end

section
variable {P : Program} {w : World} {H H' : Hp} {h h' : Heap} {a : Addr} {o : HO}
theorem ObjOk.lt (x : ObjOk P w H h a o) : a < h.objs.size := by
  cases o with
  | lst xs => obtain ⟨_, _, _, _, e⟩ := x; exact Heap.lt_size e
  | tup xs => obtain ⟨_, _, _, p⟩ := x; exact p.lt
  | dK kvs => obtain ⟨_, _, _, _, o, _, _, e, _⟩ := x; exact Heap.lt_size e
  | dT kvs => obtain ⟨_, _, _, _, o, _, _, e, _⟩ := x; exact Heap.lt_size e
  | set S n => obtain ⟨o, _, _, _, e, _⟩ := x; exact Heap.lt_size e
  | ins C dx fs => obtain ⟨_, _, _, e, _⟩ := x; exact Heap.lt_size e
  | own y => obtain ⟨_, e⟩ := x; exact Heap.lt_size e
  | xd fs => obtain ⟨_, ⟨_, _, _, e, _⟩, _⟩ := x; exact Heap.lt_size e
  | rng lo hi => obtain ⟨_, _, _, e⟩ := x; exact Heap.lt_size e
  | frz ob u => obtain ⟨e, _⟩ := x; exact Heap.lt_size e
  | tbl ps => exact Heap.lt_size (show h.get? a = some _ from x)
  | met f y => exact Heap.lt_size (show h.get? a = some _ from x)
  | ext φ => obtain ⟨_, ⟨_, e⟩, _⟩ := x; exact Heap.lt_size e
theorem Paired.mapP {α β : Type} {F G : α → β → Prop} : ∀ {l₁ : List α} {l₂ : List β}, Paired F l₁ l₂ → (∀ a b, F a b → G a b) → Paired G l₁ l₂
  | _, _, .nil, _ => .nil
  | _, _, .cons r t, f => .cons (f _ _ r) (Paired.mapP t f)
/-- what an object's description leans on: its own object, its own dict, the tuples -/
theorem ObjOk.stay (x : ObjOk P w H h a o) (k : ∀ b u, (b = a ∨ H b = some (.own a)) → h.get? b = some u → h'.get? b = some u)
    (ho : ∀ b, H b = some (.own a) → H' b = some (.own a)) (ht : ∀ b xs, H b = some (.tup xs) → H' b = some (.tup xs)) : ObjOk P w H' h' a o := by
  induction o with
  | lst xs => obtain ⟨z, its, n, r, e⟩ := x; exact ⟨z, its, n, r, k _ _ (.inl rfl) e⟩
  | tup xs => obtain ⟨z, its, r, ob, e, c⟩ := x; exact ⟨z, its, r, ob, k _ _ (.inl rfl) e, c⟩
  | dK kvs => obtain ⟨z, y, vs, r, ob, es, ep, e, c⟩ := x; exact ⟨z, y, vs, r, ob, es, ep, k _ _ (.inl rfl) e, c⟩
  | dT kvs =>
    obtain ⟨z, y, xs, r, ob, es, ep, e, c⟩ := x
    exact ⟨z, y, xs, Paired.mapP r fun p q z => ⟨z.1, ht _ _ z.2.1, z.2.2⟩, ob, es, ep, k _ _ (.inl rfl) e, c⟩
  | set S n => obtain ⟨ob, es, ep, t, e, c⟩ := x; exact ⟨ob, es, ep, t, k _ _ (.inl rfl) e, c⟩
  | ins C dx fs =>
    obtain ⟨d, z, ne, e, mA, ⟨od, es, ep, e2, c⟩, r⟩ := x
    exact ⟨ho _ d, z, ne, k _ _ (.inl rfl) e, mA, ⟨od, es, ep, k _ _ (.inr d) e2, c⟩, r⟩
  | own y => obtain ⟨ob, e⟩ := x; exact ⟨ob, k _ _ (.inl rfl) e⟩
  | xd fs => obtain ⟨mA, ⟨od, es, ep, e, c⟩, r⟩ := x; exact ⟨mA, ⟨od, es, ep, k _ _ (.inl rfl) e, c⟩, r⟩
  | rng lo hi => obtain ⟨t, u, v, e⟩ := x; exact ⟨t, u, v, k _ _ (.inl rfl) e⟩
  | frz ob u ih => obtain ⟨e, q⟩ := x; exact ⟨k _ _ (.inl rfl) e, ih q⟩
  | tbl ps =>
    have e : h.get? a = some { cls := .none, data := .fields ps } := x
    show h'.get? a = some { cls := .none, data := .fields ps }
    exact k a _ (.inl rfl) e
  | met f y =>
    have e : h.get? a = some (PySem.W.methodObj (.ref f) (.ref y)) := x
    show h'.get? a = some (PySem.W.methodObj (.ref f) (.ref y))
    exact k a _ (.inl rfl) e
  | ext φ => obtain ⟨p, ⟨o, e⟩, st⟩ := x; exact ⟨st _ _ p fun o q => k _ _ (.inl rfl) q, ⟨o, k _ _ (.inl rfl) e⟩, st⟩
theorem HOk.lt (x : HOk P w H h) (e : H a = some o) : a < h.objs.size := (x a o e).lt
theorem HOk.fresh (x : HOk P w H h) (e : h.objs.size ≤ a) : H a = none := by
  cases q : H a with
  | none => rfl
  | some u => exact absurd (Nat.lt_of_lt_of_le (x.lt q) e) (Nat.lt_irrefl _)
/-- every object of the heap is kept -/
theorem HOk.kept (x : HOk P w H h) (k : ∀ b u, h.get? b = some u → h'.get? b = some u) : HOk P w H h' := fun a o e =>
  (x a o e).stay (fun b u _ q => k b u q) (fun _ q => q) fun _ _ q => q
/-- a new object is laid and tracked -/
theorem HOk.laid (x : HOk P w H h) (k : ∀ b u, h.get? b = some u → h'.get? b = some u) (hp : h.objs.size ≤ a) (new : ObjOk P w (upd H a o) h' a o) : HOk P w (upd H a o) h' := fun b u e => by
  have hn := x.fresh hp
  by_cases hb : b = a
  · subst hb; rw [upd_same] at e; cases e; exact new
  · rw [upd_ne hb] at e
    exact (x b u e).stay (fun c v _ q => k c v q) (fun c q => by rw [upd_ne (ne_of_none q hn)]; exact q) fun c xs q => by rw [upd_ne (ne_of_none q hn)]; exact q
end

/-- what may be read as u: it is u, or a known u -/
noncomputable def Rd (H : Hp) (a : Addr) (u : HO) : Prop := H a = some u ∨ ∃ o, H a = some (.frz o u)
theorem Rd.ok {P : Program} {w : World} {H : Hp} {h : Heap} {a : Addr} {u : HO} (r : Rd H a u) (x : HOk P w H h) : ObjOk P w H h a u := by
  rcases r with r | ⟨o, r⟩
  · exact x a u r
  · obtain ⟨_, q⟩ := x a _ r
    exact q
/-- what may be written -/
noncomputable def Mut : Option HO → Prop
  | some (.lst _) => True
  | some (.dK _) => True
  | some (.dT _) => True
  | some (.set _ _) => True
  | some (.ins _ _ _) => True
  | some (.ext _) => True
  | _ => False
section
variable {P : Program} {w : World} {H : Hp} {h h' : Heap} {x e : Addr} {o' : HO}
/-- the object at e is changed: x itself, or the dict of the instance x -/
theorem HOk.write (ok : HOk P w H h) (mu : Mut (H x)) (he : e = x ∨ H e = some (.own x)) (k : ∀ b u, b ≠ e → h.get? b = some u → h'.get? b = some u) (heo : ∃ u, h'.get? e = some u)
    (new : ObjOk P w (upd H x o') h' x o') : HOk P w (upd H x o') h' := fun b u q => by
  have nown : ∀ c y, H c = some (.own y) → c ≠ x := fun c y r z => by subst z; rw [r] at mu; exact mu
  have ntup : ∀ c xs, H c = some (.tup xs) → c ≠ x := fun c xs r z => by subst z; rw [r] at mu; exact mu
  by_cases hb : b = x
  · subst hb; rw [upd_same] at q; cases q; exact new
  · rw [upd_ne hb] at q
    by_cases hbe : b = e
    · have q' : H b = some (.own x) := by
        rcases he with z | z
        · exact absurd (hbe.trans z) hb
        · rw [hbe]; exact z
      rw [q] at q'; cases q'
      obtain ⟨v, hv⟩ := heo
      exact ⟨v, by rw [hbe]; exact hv⟩
    · refine (ok b u q).stay (fun c v hc r => k c v ?_ r) (fun c r => by rw [upd_ne (nown c b r)]; exact r) fun c xs r => by rw [upd_ne (ntup c xs r)]; exact r
      rcases hc with rfl | hc
      · exact hbe
      · rintro rfl
        rcases he with z | z
        · exact nown c b hc z
        · rw [hc] at z; cases z; exact hb rfl
end

/-! ### kept unless tracked; of the frames at fs (the callers') the slots may change (an exception that passes writes there); of the records at ex (iterators) nothing is said -/
structure Un (fs ex : List Addr) (H H' : Hp) (h h' : Heap) : Prop where
  keep : ∀ b o, h.get? b = some o → H b = none → b ∉ fs → b ∉ ex → h'.get? b = some o
  slot : ∀ b o, h.get? b = some o → H b = none → b ∈ fs → b ∉ ex → ∃ sl, h'.get? b = some { o with slots := sl }
  free : ∀ b o, h.get? b = some o → H b = none → b ∉ ex → H' b = none
  there : ∀ b o, h.get? b = some o → b ∉ ex → ∃ o', h'.get? b = some o'
  tups : ∀ b xs, H b = some (.tup xs) → H' b = some (.tup xs)
  frzs : ∀ b o u, H b = some (.frz o u) → H' b = some (.frz o u)
  tbls : ∀ b ps, H b = some (.tbl ps) → ∃ more, H' b = some (.tbl (ps ++ more))
section
variable {fs fs' ex ex' : List Addr} {H H1 H2 : Hp} {h h1 h2 h' : Heap} {a x e : Addr} {o : HO}
theorem Un.any (u : Un fs ex H H1 h h1) {b : Addr} {ob : Obj} (q : h.get? b = some ob) (n : H b = none) (hx : b ∉ ex) : ∃ sl, h1.get? b = some { ob with slots := sl } := by
  by_cases hb : b ∈ fs
  · exact u.slot b ob q n hb hx
  · exact ⟨ob.slots, u.keep b ob q n hb hx⟩
theorem Un.kept (k : ∀ b u, h.get? b = some u → h'.get? b = some u) : Un fs ex H H h h' :=
  ⟨fun b ob q _ _ _ => k b ob q, fun b ob q _ _ _ => ⟨ob.slots, k b ob q⟩, fun _ _ _ n _ => n, fun b ob q _ => ⟨ob, k b ob q⟩, fun _ _ q => q, fun _ _ _ q => q, fun _ ps q => ⟨#[], by rw [q]; simp⟩⟩
theorem Un.refl : Un fs ex H H h h := Un.kept fun _ _ q => q
theorem Un.laid (k : ∀ b u, h.get? b = some u → h'.get? b = some u) (hp : h.objs.size ≤ a) (hn : H a = none) : Un fs ex H (upd H a o) h h' where
  keep := fun b u q _ _ _ => k b u q
  slot := fun b u q _ _ _ => ⟨u.slots, k b u q⟩
  free := fun b u q n _ => by rw [upd_ne (Nat.ne_of_lt (Nat.lt_of_lt_of_le (Heap.lt_size q) hp))]; exact n
  there := fun b u q _ => ⟨u, k b u q⟩
  tups := fun b xs q => by rw [upd_ne (ne_of_none q hn)]; exact q
  frzs := fun b u xs q => by rw [upd_ne (ne_of_none q hn)]; exact q
  tbls := fun b ps q => ⟨#[], by rw [upd_ne (ne_of_none q hn), q]; simp⟩
theorem Un.write (mu : Mut (H x)) (he : e = x ∨ H e = some (.own x)) (k : ∀ b u, b ≠ e → h.get? b = some u → h'.get? b = some u) (heo : ∃ u, h'.get? e = some u) : Un fs ex H (upd H x o) h h' := by
  have hx : ∀ b, H b = none → b ≠ x := fun b n z => by subst z; rw [n] at mu; exact mu
  have hb : ∀ b, H b = none → b ≠ e := fun b n z => by
    subst z
    rcases he with r | r
    · exact hx b n r
    · rw [n] at r; cases r
  have hm : ∀ b u, H b = some u → ¬ Mut (some u) → b ≠ x := fun b u q nm z => by subst z; rw [q] at mu; exact nm mu
  refine ⟨fun b u q n _ _ => k b u (hb b n) q, fun b u q n _ _ => ⟨u.slots, k b u (hb b n) q⟩, fun b u q n _ => by rw [upd_ne (hx b n)]; exact n, fun b u q _ => ?_,
    fun b xs q => by rw [upd_ne (hm b _ q fun z => z)]; exact q, fun b u xs q => by rw [upd_ne (hm b _ q fun z => z)]; exact q, fun b ps q => ⟨#[], by rw [upd_ne (hm b _ q fun z => z), q]; simp⟩⟩
  by_cases hbe : b = e
  · subst hbe; exact heo
  · exact ⟨u, k b u hbe q⟩
end

/-! ### the heap without what is tracked -/
noncomputable def trk (h : Heap) (H : Hp) : List Addr := (List.range h.objs.size).filter fun a => (H a).isSome
noncomputable def hidT (h : Heap) (H : Hp) : Heap := PySem.W.hideAll h (trk h H)
theorem hidT_size (h : Heap) (H : Hp) : (hidT h H).objs.size = h.objs.size := PySem.W.hideAll_size _ _
theorem hidT_get {h : Heap} {H : Hp} {b : Addr} {o : Obj} (e : h.get? b = some o) (n : H b = none) : (hidT h H).get? b = some o :=
  PySem.W.hideAll_get _ e fun hm => by
    have q : (H b).isSome = true := (List.mem_filter.mp hm).2
    rw [n] at q; simp at q
theorem of_hidT {h : Heap} {H : Hp} {b : Addr} {o : Obj} (e : (hidT h H).get? b = some o) : h.get? b = some o ∧ H b = none := by
  have e' : h.get? b = some o := PySem.W.of_hideAll (trk h H) e
  refine ⟨e', ?_⟩
  cases q : H b with
  | none => rfl
  | some x =>
    have hm : b ∈ trk h H := List.mem_filter.mpr ⟨List.mem_range.mpr (Heap.lt_size e'), by simp [q]⟩
    have z : (hidT h H).get? b = none := PySem.W.hideAll_none (trk h H) hm
    rw [z] at e; cases e

/-! ### OpenK's ledger, filled with every new object but one -/
noncomputable def allNews (g h : Heap) (L : Addr) : List (Addr × Obj) := (List.range h.objs.size).filterMap fun a => if a = L ∨ (g.get? a).isSome = true then none else (h.get? a).map fun o => (a, o)
noncomputable def rest (g h : Heap) (L d : Addr) : List (Addr × Obj) := (allNews g h L).filter fun p => decide (p.1 ≠ d)
end L2

namespace L2
open PySem PySem.Spec PyProof.Rows

/-- the module's facts, over the base: the heap at the law's entry without what is tracked there -/
structure Mod (K : PySem.W.Frag) (mg : Str → Option Value) (base : Heap) : Prop where
  kin : K.In base
  glob : base.Ns mainGlobals mg
  blt : ∃ mb, base.Ns builtinsNs mb ∧ ∀ x : Str, x ≠ "__name__" → mb x = bootBuiltins x
  nolimit : base.NoLimit

/-- the context: a def's body (or a comprehension's block) running. base: fixed through the whole law; s₀, H₀: the entry; outer: the frames whose slots others may change (a def's callers); stack: all frames that run;
   ex: iterators that were made ahead of the entry and are walked here (a comprehension's); fn: the names whose cells were made at the entry (a def: all; a comprehension's block: its own); calm: not within an except suite; pn: pins that every state bears; xe: what is wanted of an exception that leaves the code -/
structure Cx where
  prog : Program
  w : World
  K : PySem.W.Frag
  mg : Str → Option Value
  base : Heap
  A : Around
  N : List Str
  s₀ : Shared
  H₀ : Hp
  env : Env
  outer : List Env
  stack : List Env
  ex : List Addr
  fn : Str → Bool
  calm : Bool
  pn : List (Addr × Obj)
  xe : Value → Shared → Prop
/-- the callers' frames -/
noncomputable def frs (l : List Env) : List Addr := l.filterMap (·.frame)
noncomputable abbrev Cx.fs (X : Cx) : List Addr := frs X.outer

noncomputable def Vis (sc : Scope) (x : Str) : Prop := sc.names.lookup x = some .local ∨ sc.names.lookup x = some .cell ∨ sc.names.lookup x = some .free
noncomputable def Loc (sc : Scope) (x : Str) : Prop := sc.names.lookup x = some .local ∨ sc.names.lookup x = some .cell
noncomputable def Look (env : Env) (h : Heap) (m : Str → Option Value) (x : Str) (u : Value) : Prop :=
  (env.kindOf x = some .local ∧ m x = some u) ∨ ((env.kindOf x = some .cell ∨ env.kindOf x = some .free) ∧ ∃ c, env.cells.lookup x = some c ∧ h.IsCell c (some u))

structure Cx.Ok (X : Cx) : Prop where
  mod : Mod X.K X.mg X.base
  kind : X.env.scope.kind = .function
  glob : X.env.globals = mainGlobals
  blt : X.env.builtins = builtinsNs
  above : X.s₀.heap.objs.size ≤ X.env.locals
  inj : ∀ x y c, X.env.cells.lookup x = some c → X.env.cells.lookup y = some c → x = y
  has : ∀ x, (X.env.kindOf x = some .cell ∨ X.env.kindOf x = some .free) → ∃ c, X.env.cells.lookup x = some c
  cab : ∀ x c, X.fn x = true → X.env.cells.lookup x = some c → X.s₀.heap.objs.size ≤ c
  hd : X.calm = true → X.A.handled = none
  frames : X.A.frames = some X.stack
  stk : X.stack = X.outer ∨ (X.stack = X.env :: X.outer ∧ X.env.frame = some X.env.locals)
  exf : ∀ b ∈ X.ex, b ≠ X.env.locals ∧ ∀ x c, X.env.cells.lookup x = some c → c ≠ b
  bs : ∀ b o, X.base.get? b = some o → X.s₀.heap.get? b = some o ∧ X.H₀ b = none
  bsz : X.base.objs.size ≤ X.s₀.heap.objs.size
  noex : ∀ b o, X.base.get? b = some o → b ∉ X.ex
  exfs : ∀ b ∈ X.ex, b ∉ X.fs
  funs : X.s₀.heap.FunFrames X.base X.outer
  frf : ∀ b ∈ X.fs, X.H₀ b = none

structure Inv (X : Cx) (pins : List (Addr × Obj)) (σ : List (Option V)) (H : Hp) (s : Shared) : Prop where
  ok : X.Ok
  os : s.os = X.s₀.os
  bare : AllBare s.gens
  base : Un X.fs X.ex X.H₀ H X.s₀.heap s.heap
  loc : ∃ m, s.heap.Ns X.env.locals m ∧ ∀ (i : Nat) (x : Str) (v : V), X.N[i]? = some x → σ[i]? = some (some v) → Vis X.env.scope x → ∃ u, RelV v u ∧ Look X.env s.heap m x u
  cell : ∀ x c, X.env.cells.lookup x = some c → ∃ v, s.heap.IsCell c v
  free : H X.env.locals = none
  freeC : ∀ x c, X.env.cells.lookup x = some c → H c = none
  pin : ∀ p ∈ X.pn ++ pins, s.heap.get? p.1 = some p.2 ∧ H p.1 = none ∧ p.1 ≠ X.env.locals ∧ p.1 ∉ X.fs ∧ ∀ v, p.2.data ≠ .cell v
  hok : HOk X.prog X.w H s.heap
  len : σ.length = X.N.length

section
variable {X : Cx} {pins : List (Addr × Obj)} {σ : List (Option V)} {H H' : Hp} {s : Shared} {h' : Heap}

theorem Cx.Ok.nofr (ok : X.Ok) {b : Addr} {o : Obj} (e : X.base.get? b = some o) : b ∉ X.fs := fun hb => by
  have := (ok.funs.mem hb).1
  rw [e] at this; cases this
theorem Inv.bs (I : Inv X pins σ H s) : ∀ b o, X.base.get? b = some o → s.heap.get? b = some o ∧ H b = none := fun b o e =>
  ⟨I.base.keep b o (I.ok.bs b o e).1 (I.ok.bs b o e).2 (I.ok.nofr e) (I.ok.noex b o e), I.base.free b o (I.ok.bs b o e).1 (I.ok.bs b o e).2 (I.ok.noex b o e)⟩
theorem Inv.bk (I : Inv X pins σ H s) : ∀ b o, X.base.get? b = some o → s.heap.get? b = some o := fun b o e => (I.bs b o e).1
theorem Inv.mod (I : Inv X pins σ H s) : Mod X.K X.mg X.base := I.ok.mod
theorem Inv.kIn (I : Inv X pins σ H s) : X.K.In s.heap := I.ok.mod.kin.keeps I.bk
theorem Inv.lt (I : Inv X pins σ H s) : X.env.locals < s.heap.objs.size := let ⟨_, hn, _⟩ := I.loc; hn.lt
theorem Inv.sz (I : Inv X pins σ H s) : X.s₀.heap.objs.size ≤ s.heap.objs.size := Nat.le_trans I.ok.above (Nat.le_of_lt I.lt)
theorem Inv.nofs (I : Inv X pins σ H s) {a : Addr} (h : s.heap.objs.size ≤ a) : a ∉ X.fs := fun hb => by
  obtain ⟨_, o, ho, _⟩ := I.ok.funs.mem hb
  exact absurd (Nat.lt_of_lt_of_le (Heap.lt_size ho) (Nat.le_trans I.sz h)) (Nat.lt_irrefl _)
theorem Inv.cne (I : Inv X pins σ H s) : ∀ x c, X.env.cells.lookup x = some c → c ≠ X.env.locals := fun x c e z => by
  obtain ⟨v, o, ho, hd⟩ := I.cell x c e
  obtain ⟨m, ⟨o', es, ep, ho', hd', _⟩, _⟩ := I.loc
  rw [z, ho'] at ho; cases ho; rw [hd'] at hd; cases hd
theorem Inv.funs (I : Inv X pins σ H s) : s.heap.FunFrames X.base X.outer := by
  have all : ∀ (l : List Env), (∀ b ∈ frs l, b ∈ X.fs) → X.s₀.heap.FunFrames X.base l → s.heap.FunFrames X.base l := by
    intro l
    induction l with
    | nil => intro _ _; trivial
    | cons env r ih =>
      intro hs hl
      obtain ⟨hk, ⟨L, o, hf, hn, ho, hd⟩, hr⟩ := hl
      have hL : L ∈ X.fs := hs L (by unfold frs; rw [List.filterMap_cons, hf]; exact List.mem_cons_self)
      obtain ⟨sl, e⟩ := I.base.slot L o ho (I.ok.frf L hL) hL fun z => I.ok.exfs L z hL
      exact ⟨hk, ⟨L, _, hf, hn, e, hd⟩, ih (fun b hb => hs b (by unfold frs; rw [List.filterMap_cons, hf]; exact List.mem_cons_of_mem _ hb)) hr⟩
  exact all X.outer (fun _ hb => hb) I.ok.funs

/-- the frames that run, for a call -/
theorem Inv.stack (I : Inv X pins σ H s) : s.heap.FunFrames X.base X.stack := by
  rcases I.ok.stk with e | ⟨e, hf⟩
  · rw [e]; exact I.funs
  · rw [e]
    obtain ⟨m, hn, _⟩ := I.loc
    refine .cons (by rw [I.ok.kind]; decide) hf hn ?_ I.funs
    exact Heap.get?_none_of_le (Nat.le_trans I.ok.bsz I.ok.above)
theorem Inv.stkSub (I : Inv X pins σ H s) : ∀ b ∈ frs X.stack, b ∈ X.env.locals :: X.fs := fun b hb => by
  rcases I.ok.stk with e | ⟨e, hf⟩
  · rw [e] at hb; exact List.mem_cons_of_mem _ hb
  · rw [e] at hb
    unfold frs at hb
    rw [List.filterMap_cons, hf] at hb
    exact hb
theorem Inv.stkFree (I : Inv X pins σ H s) : ∀ b ∈ frs X.stack, H b = none := fun b hb => by
  rcases List.mem_cons.mp (I.stkSub b hb) with e | hb
  · rw [e]; exact I.free
  · obtain ⟨_, o, ho, _⟩ := I.ok.funs.mem hb
    exact I.base.free b o ho (I.ok.frf b hb) fun z => I.ok.exfs b z hb

/-- THE STEP: the untracked objects but the frame and the records at ch are kept (the callers' frames up to slots), the frame's map is kept, the new abstract heap is held -/
theorem Inv.step {g' : Array GenState} {t' : Nat} {d' : Drawn} {ch : List Addr} (I : Inv X pins σ H s)
    (hch : ∀ b ∈ ch, (b ∈ X.ex ∨ X.s₀.heap.objs.size ≤ b) ∧ b ≠ X.env.locals ∧ (∀ x c, X.env.cells.lookup x = some c → c ≠ b) ∧ ∀ p ∈ X.pn ++ pins, p.1 ≠ b)
    (keep : ∀ b o, b ≠ X.env.locals → b ∉ X.fs → b ∉ ch → s.heap.get? b = some o → H b = none → h'.get? b = some o)
    (slot : ∀ b o, b ≠ X.env.locals → b ∈ X.fs → b ∉ ch → s.heap.get? b = some o → H b = none → ∃ sl, h'.get? b = some { o with slots := sl }) (free : ∀ b o, b ∉ ch → s.heap.get? b = some o → H b = none → H' b = none)
    (there : ∀ b o, b ∉ ch → s.heap.get? b = some o → ∃ o', h'.get? b = some o')
    (tups : ∀ b xs, H b = some (.tup xs) → H' b = some (.tup xs)) (frzs : ∀ b o u, H b = some (.frz o u) → H' b = some (.frz o u)) (tbls : ∀ b ps, H b = some (.tbl ps) → ∃ more, H' b = some (.tbl (ps ++ more)))
    (ns : ∀ m, s.heap.Ns X.env.locals m → h'.Ns X.env.locals m) (hok : HOk X.prog X.w H' h') (hg : AllBare g') :
    Inv X pins σ H' { s with heap := h', gens := g', drawn := d', toks := t' } := by
  have neL : ∀ b o, X.s₀.heap.get? b = some o → b ≠ X.env.locals := fun b o e => Nat.ne_of_lt (Nat.lt_of_lt_of_le (Heap.lt_size e) I.ok.above)
  have neC : ∀ b o, X.s₀.heap.get? b = some o → b ∉ X.ex → b ∉ ch := fun b o e hx hb => by
    rcases (hch b hb).1 with z | z
    · exact hx z
    · exact absurd (Nat.lt_of_lt_of_le (Heap.lt_size e) z) (Nat.lt_irrefl _)
  have cellK : ∀ x c, X.env.cells.lookup x = some c → ∀ v, s.heap.IsCell c v → h'.IsCell c v := fun x c e v ⟨o, ho, hd⟩ => by
    have nch : c ∉ ch := fun z => (hch c z).2.2.1 x c e rfl
    by_cases hc : c ∈ X.fs
    · obtain ⟨sl, q⟩ := slot c o (I.cne x c e) hc nch ho (I.freeC x c e)
      exact ⟨_, q, hd⟩
    · exact ⟨o, keep c o (I.cne x c e) hc nch ho (I.freeC x c e), hd⟩
  refine ⟨I.ok, I.os, hg, ⟨fun b o e n hb hx => ?_, fun b o e n hb hx => ?_, fun b o e n hx => ?_, fun b o e hx => ?_, fun b xs e => tups b xs (I.base.tups b xs e), fun b o xs e => frzs b o xs (I.base.frzs b o xs e), fun b ps e => ?_⟩, ?_, fun x c e => ?_, ?_, fun x c e => ?_, fun p hp => ?_, hok, I.len⟩
  · exact keep b o (neL b o e) hb (neC b o e hx) (I.base.keep b o e n hb hx) (I.base.free b o e n hx)
  · obtain ⟨sl, e1⟩ := I.base.slot b o e n hb hx
    obtain ⟨sl', e2⟩ := slot b _ (neL b o e) hb (neC b o e hx) e1 (I.base.free b o e n hx)
    exact ⟨sl', e2⟩
  · obtain ⟨o', e1⟩ := I.base.there b o e hx
    exact free b o' (neC b o e hx) e1 (I.base.free b o e n hx)
  · obtain ⟨o', e1⟩ := I.base.there b o e hx
    exact there b o' (neC b o e hx) e1
  · obtain ⟨m1, e1⟩ := I.base.tbls b ps e
    obtain ⟨m2, e2⟩ := tbls b _ e1
    exact ⟨m1 ++ m2, by rw [e2, Array.append_assoc]⟩
  · obtain ⟨m, hn, hl⟩ := I.loc
    refine ⟨m, ns m hn, fun i x v e1 e2 e3 => ?_⟩
    obtain ⟨u, r, l⟩ := hl i x v e1 e2 e3
    refine ⟨u, r, ?_⟩
    rcases l with l | ⟨k, c, e, z⟩
    · exact .inl l
    · exact .inr ⟨k, c, e, cellK x c e _ z⟩
  · obtain ⟨v, z⟩ := I.cell x c e
    exact ⟨v, cellK x c e v z⟩
  · obtain ⟨m, ⟨o, _, _, ho, _⟩, _⟩ := I.loc
    exact free _ o (fun z => (hch _ z).2.1 rfl) ho I.free
  · obtain ⟨v, o, ho, hd⟩ := I.cell x c e
    exact free c o (fun z => (hch c z).2.2.1 x c e rfl) ho (I.freeC x c e)
  · obtain ⟨e, n, ne, nf, d⟩ := I.pin p hp
    have nch : p.1 ∉ ch := fun z => (hch p.1 z).2.2.2 p hp rfl
    exact ⟨keep p.1 p.2 ne nf nch e n, free p.1 p.2 nch e n, ne, nf, d⟩
/-- .. where the frame's own object is kept too -/
theorem Inv.un {t' : Nat} (I : Inv X pins σ H s) (u : Un X.fs [] H H' s.heap h') (hok : HOk X.prog X.w H' h') : Inv X pins σ H' { s with heap := h', toks := t' } := by
  obtain ⟨m, ⟨o, es, ep, ho, r⟩, _⟩ := id I.loc
  obtain ⟨sl, hL⟩ := u.any ho I.free (by simp)
  exact I.step (g' := s.gens) (d' := s.drawn) (ch := []) (fun _ z => nomatch z) (fun b o _ hb _ e n => u.keep b o e n hb (by simp)) (fun b o _ hb _ e n => u.slot b o e n hb (by simp)) (fun b o _ e n => u.free b o e n (by simp)) (fun b o _ e => u.there b o e (by simp)) u.tups u.frzs u.tbls (fun m' hm => by
    obtain ⟨o', es', ep', ho', r'⟩ := hm
    rw [ho] at ho'; cases ho'
    exact ⟨_, es', ep', hL, r'⟩) hok I.bare
/-- behind a call (or a comprehension's block): the slots of this frame may have changed too, the records at ch may have turned -/
theorem Inv.call {g' : Array GenState} {t' : Nat} {d' : Drawn} {ch : List Addr} (I : Inv X pins σ H s) (u : Un (frs X.stack) ch H H' s.heap h') (hok : HOk X.prog X.w H' h') (hg : AllBare g')
    (hch : ∀ b ∈ ch, (b ∈ X.ex ∨ X.s₀.heap.objs.size ≤ b) ∧ b ≠ X.env.locals ∧ (∀ x c, X.env.cells.lookup x = some c → c ≠ b) ∧ ∀ p ∈ X.pn ++ pins, p.1 ≠ b) :
    Inv X pins σ H' { s with heap := h', gens := g', drawn := d', toks := t' } := by
  obtain ⟨m, ⟨o, es, ep, ho, r⟩, _⟩ := id I.loc
  obtain ⟨sl, hL⟩ := u.any ho I.free fun z => (hch _ z).2.1 rfl
  exact I.step (ch := ch) hch (fun b o hL hb hc e n => u.keep b o e n (fun z => (List.mem_cons.mp (I.stkSub b z)).elim hL hb) hc) (fun b o _ _ hc e n => u.any e n hc) (fun b o hc e n => u.free b o e n hc) (fun b o hc e => u.there b o e hc) u.tups u.frzs u.tbls (fun m' hm => by
    obtain ⟨o', es', ep', ho', r'⟩ := hm
    rw [ho] at ho'; cases ho'
    exact ⟨_, es', ep', hL, r'⟩) hok hg
/-- an untracked record of ours (an iterator) has turned -/
theorem Inv.turned {t' : Nat} {it : Addr} (I : Inv X pins σ H s) (k : ∀ b o, b ≠ it → s.heap.get? b = some o → h'.get? b = some o) (hn : H it = none) (hL : it ≠ X.env.locals)
    (h1 : it ∈ X.ex ∨ X.s₀.heap.objs.size ≤ it) (h2 : ∀ x c, X.env.cells.lookup x = some c → c ≠ it) (h3 : ∀ p ∈ X.pn ++ pins, p.1 ≠ it) : Inv X pins σ H { s with heap := h', toks := t' } := by
  have nit : ∀ b u, H b = some u → b ≠ it := fun b u e z => by rw [z, hn] at e; cases e
  refine I.step (g' := s.gens) (d' := s.drawn) (ch := [it]) (fun b hb => ?_) (fun b o _ _ hc e _ => k b o (fun z => hc (by simp [z])) e) (fun b o _ _ hc e _ => ⟨o.slots, k b o (fun z => hc (by simp [z])) e⟩) (fun _ _ _ _ n => n)
    (fun b o hc e => ⟨o, k b o (fun z => hc (by simp [z])) e⟩) (fun _ _ e => e) (fun _ _ _ e => e) (fun b ps e => ⟨#[], by rw [e]; simp⟩) (fun m hm => ?_) (fun b u e => ?_) I.bare
  · have e : b = it := by simpa using hb
    subst e
    exact ⟨h1, hL, h2, h3⟩
  · obtain ⟨o, es, ep, ho, r⟩ := hm
    exact ⟨o, es, ep, k _ o (Ne.symm hL) ho, r⟩
  · refine (I.hok b u e).stay (fun c v hc q => k c v ?_ q) (fun _ q => q) fun _ _ q => q
    rcases hc with z | z
    · rw [z]; exact nit b u e
    · exact nit c _ z
theorem Inv.tok (I : Inv X pins σ H s) (t : Nat) : Inv X pins σ H { s with toks := t } := I.un (h' := s.heap) (t' := t) Un.refl I.hok
/-- all objects kept -/
theorem Inv.kept {t' : Nat} (I : Inv X pins σ H s) (k : ∀ b u, s.heap.get? b = some u → h'.get? b = some u) : Inv X pins σ H { s with heap := h', toks := t' } := I.un (Un.kept k) (I.hok.kept k)
/-- a new object laid and tracked -/
theorem Inv.laid {a : Addr} {o : HO} {t' : Nat} (I : Inv X pins σ H s) (k : ∀ b u, s.heap.get? b = some u → h'.get? b = some u) (hp : s.heap.objs.size ≤ a) (new : ObjOk X.prog X.w (upd H a o) h' a o) :
    Inv X pins σ (upd H a o) { s with heap := h', toks := t' } := I.un (Un.laid k hp (I.hok.fresh hp)) (I.hok.laid k hp new)
/-- an object written -/
theorem Inv.write {x e : Addr} {o : HO} {t' : Nat} (I : Inv X pins σ H s) (mu : Mut (H x)) (he : e = x ∨ H e = some (.own x)) (k : ∀ b u, b ≠ e → s.heap.get? b = some u → h'.get? b = some u) (heo : ∃ u, h'.get? e = some u)
    (new : ObjOk X.prog X.w (upd H x o) h' x o) : Inv X pins σ (upd H x o) { s with heap := h', toks := t' } := I.un (Un.write mu he k heo) (I.hok.write mu he k heo new)
theorem Inv.pins_of {pins' : List (Addr × Obj)} (I : Inv X pins σ H s) (h : ∀ p ∈ pins', s.heap.get? p.1 = some p.2 ∧ H p.1 = none ∧ p.1 ≠ X.env.locals ∧ p.1 ∉ X.fs ∧ ∀ v, p.2.data ≠ .cell v) : Inv X pins' σ H s :=
  ⟨I.ok, I.os, I.bare, I.base, I.loc, I.cell, I.free, I.freeC, fun p hp => (List.mem_append.mp hp).elim (fun z => I.pin p (List.mem_append_left _ z)) (h p), I.hok, I.len⟩

theorem nodup_ix {N : List Str} (hN : N.Nodup) {i j : Nat} {x : Str} (a : N[i]? = some x) (b : N[j]? = some x) : i = j := by
  obtain ⟨h1, e1⟩ := List.getElem?_eq_some_iff.mp a
  obtain ⟨h2, e2⟩ := List.getElem?_eq_some_iff.mp b
  exact (List.getElem_inj hN).mp (e1.trans e2.symm)

/-- a name is stored; what changed -/
theorem store_ok2 {M : Model} {A : Around} {E : Value → Shared → Prop} {i : Nat} {x : Str} {v : V} {u : Value} {Q : Unit → Shared → Prop} (I : Inv X pins σ H s) (hN : X.N.Nodup) (hi : X.N[i]? = some x) (hx : Loc X.env.scope x) (r : RelV v u)
    (h : ∀ s', Inv X pins (σ.set i (some v)) H s' → (∃ a, Heap.SameBut a s.heap s'.heap ∧ (a = X.env.locals ∨ X.env.cells.lookup x = some a)) → Q () s') (hf : X.fn x = true ∨ X.env.scope.names.lookup x = some .local := by first | exact .inl rfl | exact .inr rfl | assumption) : wpAny M A (storeName X.env x u) Q E s := by
  obtain ⟨m, hn, hl⟩ := id I.loc
  have hcls : (X.env.scope.kind == .class || (X.env.scope.kind == .module && X.env.locals != X.env.globals)) = false := by rw [I.ok.kind]; rfl
  have hiσ : i < σ.length := by rw [I.len]; exact (List.getElem?_eq_some_iff.mp hi).1
  have cne := I.cne
  have tracked : ∀ {a : Addr} {h' : Heap}, (∃ o, s.heap.get? a = some o ∧ H a = none) → Heap.SameBut a s.heap h' → HOk X.prog X.w H h' := fun {a h'} ha hs b ob e => by
    obtain ⟨_, _, hfree⟩ := ha
    refine (I.hok b ob e).stay (fun c w' hc q => (hs.2 c ?_).trans q) (fun _ q => q) fun _ _ q => q
    rintro rfl
    rcases hc with rfl | hc
    · rw [hfree] at e; cases e
    · rw [hfree] at hc; cases hc
  rcases hx with hk | hk
  · refine wpAny_storeName_local hk hn (fun h' hn' hs => ?_) hcls
    obtain ⟨oL, _, _, hoL, _⟩ := id hn
    refine h _ ⟨I.ok, I.os, I.bare, ⟨fun b o e n hb hx => ?_, fun b o e n hb hx => ?_, I.base.free, fun b o e hx => ?_, I.base.tups, I.base.frzs, I.base.tbls⟩, ⟨_, hn', fun j y v' e1 e2 e3 => ?_⟩, fun y c e => ?_, I.free, I.freeC, fun p hp => ?_, tracked ⟨oL, hoL, I.free⟩ hs, by simpa using I.len⟩ ⟨_, hs, .inl rfl⟩
    · exact (hs.2 b (Nat.ne_of_lt (Nat.lt_of_lt_of_le (Heap.lt_size e) I.ok.above))).trans (I.base.keep b o e n hb hx)
    · obtain ⟨sl, e1⟩ := I.base.slot b o e n hb hx
      exact ⟨sl, (hs.2 b (Nat.ne_of_lt (Nat.lt_of_lt_of_le (Heap.lt_size e) I.ok.above))).trans e1⟩
    · obtain ⟨o', e1⟩ := I.base.there b o e hx
      exact ⟨o', (hs.2 b (Nat.ne_of_lt (Nat.lt_of_lt_of_le (Heap.lt_size e) I.ok.above))).trans e1⟩
    · by_cases hj : j = i
      · subst hj
        rw [hi] at e1; cases e1
        rw [List.getElem?_set_self hiσ] at e2
        cases e2
        exact ⟨u, r, .inl ⟨hk, by simp⟩⟩
      · rw [List.getElem?_set_ne (Ne.symm hj)] at e2
        obtain ⟨u', r', q⟩ := hl j y v' e1 e2 e3
        refine ⟨u', r', ?_⟩
        rcases q with ⟨k, e⟩ | ⟨k, c, e, z⟩
        · refine .inl ⟨k, ?_⟩
          have : y ≠ x := fun e => hj (nodup_ix hN e1 (e ▸ hi))
          simp [this, e]
        · exact .inr ⟨k, c, e, z.sameBut hs (cne y c e)⟩
    · obtain ⟨w', z⟩ := I.cell y c e
      exact ⟨w', z.sameBut hs (cne y c e)⟩
    · obtain ⟨e, n, ne, nf, d⟩ := I.pin p hp
      exact ⟨(hs.2 p.1 ne).trans e, n, ne, nf, d⟩
  · have hfn : X.fn x = true := by
      rcases hf with z | z
      · exact z
      · rw [z] at hk; cases hk
    obtain ⟨c, hc⟩ := I.ok.has x (.inl hk)
    obtain ⟨w', z⟩ := I.cell x c hc
    refine wpAny_storeName_cell I.ok.kind hk hc z (fun h' hc' hs => ?_)
    obtain ⟨oc, hoc, hocd⟩ := id z
    refine h { s with heap := h' } ⟨I.ok, I.os, I.bare, ⟨fun b o e n hb hx => ?_, fun b o e n hb hx => ?_, I.base.free, fun b o e hx => ?_, I.base.tups, I.base.frzs, I.base.tbls⟩, ⟨m, hn.sameBut hs (Ne.symm (cne x c hc)), fun j y v' e1 e2 e3 => ?_⟩, fun y c' e => ?_, I.free, I.freeC, fun p hp => ?_, tracked ⟨oc, hoc, I.freeC x c hc⟩ hs, by simpa using I.len⟩ ⟨c, hs, .inr hc⟩
    · exact (hs.2 b (Nat.ne_of_lt (Nat.lt_of_lt_of_le (Heap.lt_size e) (I.ok.cab x c hfn hc)))).trans (I.base.keep b o e n hb hx)
    · obtain ⟨sl, e1⟩ := I.base.slot b o e n hb hx
      exact ⟨sl, (hs.2 b (Nat.ne_of_lt (Nat.lt_of_lt_of_le (Heap.lt_size e) (I.ok.cab x c hfn hc)))).trans e1⟩
    · obtain ⟨o', e1⟩ := I.base.there b o e hx
      exact ⟨o', (hs.2 b (Nat.ne_of_lt (Nat.lt_of_lt_of_le (Heap.lt_size e) (I.ok.cab x c hfn hc)))).trans e1⟩
    · by_cases hj : j = i
      · subst hj
        rw [hi] at e1; cases e1
        rw [List.getElem?_set_self hiσ] at e2
        cases e2
        exact ⟨u, r, .inr ⟨.inl hk, c, hc, hc'⟩⟩
      · rw [List.getElem?_set_ne (Ne.symm hj)] at e2
        obtain ⟨u', r', q⟩ := hl j y v' e1 e2 e3
        refine ⟨u', r', ?_⟩
        rcases q with q | ⟨k, c', e, z'⟩
        · exact .inl q
        · refine .inr ⟨k, c', e, z'.sameBut hs ?_⟩
          rintro rfl
          exact hj (nodup_ix hN e1 (I.ok.inj _ _ _ e hc ▸ hi))
    · by_cases hcc : c' = c
      · subst hcc; exact ⟨_, hc'⟩
      · obtain ⟨w2, z2⟩ := I.cell y c' e
        exact ⟨w2, z2.sameBut hs hcc⟩
    · obtain ⟨e, n, ne, nf, d⟩ := I.pin p hp
      refine ⟨(hs.2 p.1 ?_).trans e, n, ne, nf, d⟩
      intro q
      rw [q, hoc] at e
      have q' : oc = p.2 := Option.some.inj e
      exact d w' (by rw [← q']; exact hocd)
theorem store_ok {M : Model} {A : Around} {E : Value → Shared → Prop} {i : Nat} {x : Str} {v : V} {u : Value} {Q : Unit → Shared → Prop} (I : Inv X pins σ H s) (hN : X.N.Nodup) (hi : X.N[i]? = some x) (hx : Loc X.env.scope x) (r : RelV v u)
    (h : ∀ s', Inv X pins (σ.set i (some v)) H s' → Q () s') (hf : X.fn x = true ∨ X.env.scope.names.lookup x = some .local := by first | exact .inl rfl | exact .inr rfl | assumption) : wpAny M A (storeName X.env x u) Q E s :=
  store_ok2 I hN hi hx r (fun s' I' _ => h s' I') hf
/-- behind a call or a block, the state as it is -/
theorem Inv.call' {s' : Shared} {ch : List Addr} (I : Inv X pins σ H s) (ho : s'.os = s.os) (u : Un (frs X.stack) ch H H' s.heap s'.heap) (hok : HOk X.prog X.w H' s'.heap) (hg : AllBare s'.gens)
    (hch : ∀ b ∈ ch, (b ∈ X.ex ∨ X.s₀.heap.objs.size ≤ b) ∧ b ≠ X.env.locals ∧ (∀ x c, X.env.cells.lookup x = some c → c ≠ b) ∧ ∀ p ∈ X.pn ++ pins, p.1 ≠ b) : Inv X pins σ H' s' := by
  obtain ⟨h', g', d', t', o'⟩ := s'
  have e : o' = s.os := ho
  subst e
  exact I.call (g' := g') (t' := t') (d' := d') u hok hg hch
end

/-! ### the judgements -/
/-- an exception: its class, its own dict's address (where it has one), the abstract heap behind it -/
noncomputable abbrev XK := Value → Option Addr → Hp → Prop
noncomputable abbrev St := List (Option V)
noncomputable abbrev VK := V → Hp → Prop
/-- an expression's reading; a test's; an argument list's -/
noncomputable abbrev TE := St → Hp → VK → Prop
noncomputable abbrev TT := St → Hp → (Bool → Hp → Prop) → Prop
noncomputable abbrev TA := St → Hp → (List V → Hp → Prop) → Prop
/-- what is wanted behind a statement -/
structure Ends where
  nx : St → Hp → Prop
  rt : VK
  bk : St → Hp → Prop := fun _ _ => False
  ct : St → Hp → Prop := fun _ _ => False
noncomputable abbrev TS := Ends → St → Hp → Prop

noncomputable def EP (X : Cx) (pins : List (Addr × Obj)) (σ : St) (Q : VK) (u : Value) (s' : Shared) : Prop := ∃ v H', Inv X pins σ H' s' ∧ RelV v u ∧ Q v H'
noncomputable def TP (X : Cx) (pins : List (Addr × Obj)) (σ : St) (Q : Bool → Hp → Prop) (b : Bool) (s' : Shared) : Prop := ∃ H', Inv X pins σ H' s' ∧ Q b H'
noncomputable def AP (X : Cx) (pins : List (Addr × Obj)) (σ : St) (Q : List V → Hp → Prop) (us : List Value) (s' : Shared) : Prop := ∃ vs H', Inv X pins σ H' s' ∧ Vals vs us ∧ Q vs H'
noncomputable def SP (X : Cx) (pins : List (Addr × Obj)) (D : Ends) (f : Flow) (s' : Shared) : Prop :=
  match f with
  | .next => ∃ σ' H', Inv X pins σ' H' s' ∧ D.nx σ' H'
  | .brk => ∃ σ' H', Inv X pins σ' H' s' ∧ D.bk σ' H'
  | .cont => ∃ σ' H', Inv X pins σ' H' s' ∧ D.ct σ' H'
  | .ret u => ∃ v σ' H', Inv X pins σ' H' s' ∧ RelV v u ∧ D.rt v H'

noncomputable def PE (X : Cx) (e : Expr) (t : TE) : Prop :=
  ∀ (pins : List (Addr × Obj)) (s : Shared) (σ : St) (H : Hp) (Q : VK), Inv X pins σ H s → t σ H Q → wpAny (model X.prog X.w) X.A (eval e X.env) (EP X pins σ Q) X.xe s
noncomputable def PT (X : Cx) (e : Expr) (t : TT) : Prop :=
  ∀ (pins : List (Addr × Obj)) (s : Shared) (σ : St) (H : Hp) (Q : Bool → Hp → Prop), Inv X pins σ H s → t σ H Q → wpAny (model X.prog X.w) X.A (isTrue e X.env (eval e X.env)) (TP X pins σ Q) X.xe s
/-- a test whatever its 'whole' is (and, or) -/
noncomputable def PW (X : Cx) (e : Expr) (t : TT) : Prop :=
  ∀ (whole : Sem Value) (pins : List (Addr × Obj)) (s : Shared) (σ : St) (H : Hp) (Q : Bool → Hp → Prop), Inv X pins σ H s → t σ H Q → wpAny (model X.prog X.w) X.A (isTrue e X.env whole) (TP X pins σ Q) X.xe s
theorem PW.pt {X : Cx} {e : Expr} {t : TT} (h : PW X e t) : PT X e t := h _
/-- an argument list (no star), from the left -/
noncomputable def PA (X : Cx) (es : List Expr) (t : TA) : Prop :=
  ∀ (pos : Pos) (pins : List (Addr × Obj)) (s : Shared) (σ : St) (H : Hp) (Q : List V → Hp → Prop), Inv X pins σ H s → t σ H Q → wpAny (model X.prog X.w) X.A (spliced (backTo pos (starEach es X.env))) (AP X pins σ Q) X.xe s
noncomputable def PS (X : Cx) (st : Stmt) (t : TS) : Prop :=
  ∀ (pins : List (Addr × Obj)) (s : Shared) (σ : St) (H : Hp) (D : Ends), Inv X pins σ H s → t D σ H → wpAny (model X.prog X.w) X.A (exec st X.env) (SP X pins D) X.xe s
noncomputable def PSs (X : Cx) (st : List Stmt) (t : TS) : Prop :=
  ∀ (pins : List (Addr × Obj)) (s : Shared) (σ : St) (H : Hp) (D : Ends), Inv X pins σ H s → t D σ H → wpAny (model X.prog X.w) X.A (execs st X.env) (SP X pins D) X.xe s
/-- weaken the end -/
theorem thn {α : Type} {t : Sem α} {Q Q' : α → Shared → Prop} {M : Model} {A : Around} {E : Value → Shared → Prop} {s : Shared} (h : wpAny M A t Q E s) (hQ : ∀ a s, Q a s → Q' a s) : wpAny M A t Q' E s := wpAny_mono h hQ fun _ _ x => x
end L2

namespace L2
open PySem PySem.Spec PyProof.Rows
section
variable {X : Cx}

/-- two expressions in a row -/
theorem bin {a b : Expr} {ta tb : TE} (ha : PE X a ta) (hb : PE X b tb) {pins : List (Addr × Obj)} {s : Shared} {σ : St} {H : Hp} {R : V → V → Hp → Prop} (I : Inv X pins σ H s) (h : ta σ H fun x H1 => tb σ H1 fun y H2 => R x y H2)
    {α : Type} {Q : α → Shared → Prop} {f : Value → Value → Sem α}
    (hf : ∀ v u s2 x y H2, Inv X pins σ H2 s2 → RelV x v → RelV y u → R x y H2 → wpAny (model X.prog X.w) X.A (f v u) Q X.xe s2) :
    wpAny (model X.prog X.w) X.A (eval a X.env) (fun v s₁ => wpAny (model X.prog X.w) X.A (eval b X.env) (fun u s₂ => wpAny (model X.prog X.w) X.A (f v u) Q X.xe s₂) X.xe s₁) X.xe s := by
  refine thn (ha pins s σ H _ I h) fun v s1 ⟨x, H1, I1, r1, q1⟩ => ?_
  refine thn (hb pins s1 σ H1 _ I1 q1) fun u s2 ⟨y, H2, I2, r2, q2⟩ => ?_
  exact hf v u s2 x y H2 I2 r1 r2 q2

/-! ### names and constants -/
noncomputable abbrev tVar (i : Nat) : TE := fun σ H Q => ∃ v, σ[i]? = some (some v) ∧ Q v H
noncomputable abbrev tC (v : V) : TE := fun _ H Q => Q v H
theorem pe_var {i : Nat} {x : Str} {pos : Pos} (hN : X.N[i]? = some x) (hv : Vis X.env.scope x) (hd : (x == ("__debug__" : Str)) = false := by decide) (hcd : (x == ("__classdict__" : Str)) = false := by decide) : PE X (.Name x pos) (tVar i) := by
  intro pins s σ H Q I h
  obtain ⟨v, e, h⟩ := h
  obtain ⟨m, hn, hl⟩ := I.loc
  obtain ⟨u, r, l⟩ := hl i x v hN e hv
  have fin : EP X pins σ Q u s := ⟨v, H, I, r, h⟩
  rcases l with ⟨hk, hm⟩ | ⟨hk, c, hc, hcell⟩
  · exact wpAny_Name (wpAny_loadName_local I.ok.kind hk hn hm fin) hd
  · rcases hk with hk | hk
    · exact wpAny_Name (wpAny_loadName_cell I.ok.kind hk hc hcell fin) hd
    · exact wpAny_Name (wpAny_loadName_free I.ok.kind hk hc hcell fin hcd) hd
theorem pe_int {i j pos} : PE X (.Constant (.int i) j pos) (tC (.int i)) := fun _ _ _ H _ I h => wpAny_Constant_int ⟨.int i, H, I.tok _, ⟨_, rfl⟩, h⟩
theorem pe_bl {b j pos} : PE X (.Constant (.bool b) j pos) (tC (.bl b)) := fun _ _ _ H _ I h => Constant_bool ⟨.bl b, H, I, rfl, h⟩
theorem pe_str {x j pos} : PE X (.Constant (.str x) j pos) (tC (.str x)) := fun _ _ _ H _ I h => Calls.Constant_str ⟨.str x, H, I.tok _, ⟨_, rfl⟩, h⟩

/-- a global name of the def -/
noncomputable def Gl (X : Cx) (x : Str) : Prop := X.env.kindOf x = some .globalImplicit
theorem ld_glob {E : Value → Shared → Prop} {pins : List (Addr × Obj)} {s : Shared} {σ : St} {H : Hp} {x : Str} {u : Value} {pos : Pos} {Q : Value → Shared → Prop} (I : Inv X pins σ H s) (hg : Gl X x) (hm : X.mg x = some u) (h : Q u s)
    (hd : (x == ("__debug__" : Str)) = false := by decide) : wpAny (model X.prog X.w) X.A (eval (.Name x pos) X.env) Q E s :=
  Calls.Name_function_global I.ok.kind hg (Calls.loadGlobal_global (by rw [I.ok.glob]; exact I.mod.glob.keeps I.bk) hm h) hd
theorem ld_blt {E : Value → Shared → Prop} {pins : List (Addr × Obj)} {s : Shared} {σ : St} {H : Hp} {x : Str} {u : Value} {pos : Pos} {Q : Value → Shared → Prop} (I : Inv X pins σ H s) (hg : Gl X x) (hm : X.mg x = none) (hv : bootBuiltins x = some u) (h : Q u s)
    (hn : x ≠ "__name__" := by decide) (hd : (x == ("__debug__" : Str)) = false := by decide) : wpAny (model X.prog X.w) X.A (eval (.Name x pos) X.env) Q E s := by
  obtain ⟨mb, h1, h2⟩ := I.mod.blt
  exact Calls.Name_function_global I.ok.kind hg (Calls.loadGlobal_builtin (by rw [I.ok.glob]; exact I.mod.glob.keeps I.bk) hm (by rw [I.ok.blt]; exact h1.keeps I.bk) ((h2 x hn).trans hv) h) hd
/-- a module's constant, a class, a function, as a value -/
theorem pe_glob {x : Str} {v : V} {u : Value} {pos : Pos} (hg : Gl X x) (hm : X.mg x = some u) (r : RelV v u) (hd : (x == ("__debug__" : Str)) = false := by decide) : PE X (.Name x pos) (tC v) :=
  fun _ _ _ H _ I h => ld_glob I hg hm ⟨v, H, I, r, h⟩ hd
theorem pe_bltn {x : Str} {v : V} {u : Value} {pos : Pos} (hg : Gl X x) (hm : X.mg x = none) (hv : bootBuiltins x = some u) (r : RelV v u) (hn : x ≠ "__name__" := by decide) (hd : (x == ("__debug__" : Str)) = false := by decide) : PE X (.Name x pos) (tC v) :=
  fun _ _ _ H _ I h => ld_blt I hg hm hv ⟨v, H, I, r, h⟩ hn hd

variable {a b : Expr} {ta tb : TE} {pos : Pos}
/-! ### comparisons -/
noncomputable def PC (X : Cx) (op : CmpOp) (a b : Expr) (t : TE) : Prop :=
  ∀ (pins : List (Addr × Obj)) (s : Shared) (σ : St) (H : Hp) (Q : VK), Inv X pins σ H s → t σ H Q →
    wpAny (model X.prog X.w) X.A (eval a X.env) (fun v s₁ => wpAny (model X.prog X.w) X.A (eval b X.env) (fun u s₂ => wpAny (model X.prog X.w) X.A (compareOp op v u) (EP X pins σ Q) X.xe s₂) X.xe s₁) X.xe s
theorem nobehind (b : Expr) {op : CmpOp} (h : op ≠ .In) (h2 : op ≠ .NotIn) : behindInMarks op b = false := by
  have e1 : (op == CmpOp.In) = false := by cases op <;> first | rfl | exact absurd rfl h
  have e2 : (op == CmpOp.NotIn) = false := by cases op <;> first | rfl | exact absurd rfl h2
  cases b <;> simp [behindInMarks, e1, e2]
/-- a comparison as a value, as a test -/
noncomputable abbrev tB (t : TE) : TT := fun σ H Q => t σ H fun x H1 => ∃ c, x = .bl c ∧ Q c H1
theorem pt_cmp {op : CmpOp} {t : TE} (h : PC X op a b t) (h1 : behindInMarks op b = false := by first | exact nobehind _ (by decide) (by decide) | rfl) : PT X (.Compare a [op] [b] pos) (tB t) := by
  intro pins s σ H Q I hw
  refine wpAny_isTrue_Compare1 (thn (h pins s σ H _ I hw) fun v s1 h1 => thn h1 fun u s2 h2 => thn h2 fun c s3 ⟨x, H1, I1, r1, q1⟩ => ?_) h1
  obtain ⟨d, rfl, q⟩ := q1
  cases r1
  exact wpAny_truthy_bool ⟨H1, I1, q⟩
/-- an expression whose value is a bool, as a test -/
theorem pt_val {e : Expr} {t : TE} (h : PE X e t) (he : ∀ whole, isTrue e X.env whole = (do let v ← whole; standAt e.pos; holding [v] (truthy v)) := by intro _; rfl) : PT X e (tB t) := by
  intro pins s σ H Q I hw
  refine isTrue_plain (thn (h pins s σ H _ I hw) fun v s1 ⟨x, H1, I1, r1, q1⟩ => ?_) (he _)
  obtain ⟨d, rfl, q⟩ := q1
  cases r1
  exact wpAny_truthy_bool ⟨H1, I1, q⟩

/-! ### and, or, not -/
variable {tA tB' : TT} {rest : List Expr}
noncomputable abbrev tAnd (t u : TT) : TT := fun σ H Q => t σ H fun c H1 => if c = true then u σ H1 Q else Q false H1
noncomputable abbrev tOr (t u : TT) : TT := fun σ H Q => t σ H fun c H1 => if c = true then Q true H1 else u σ H1 Q
noncomputable abbrev tNot (t : TT) : TT := fun σ H Q => t σ H fun c H1 => Q (!c) H1
theorem pw_and1 (ha : PT X a tA) : PW X (.BoolOp .And [a] pos) tA := by
  intro wh pins s σ H Q I h
  refine isTrue_and (thn (ha pins s σ H Q I h) fun c s1 e => ?_)
  cases c with
  | true => exact isTrue_and_nil e
  | false => exact e
theorem pw_or1 (ha : PT X a tA) : PW X (.BoolOp .Or [a] pos) tA := by
  intro wh pins s σ H Q I h
  refine isTrue_or (thn (ha pins s σ H Q I h) fun c s1 e => ?_)
  cases c with
  | false => exact isTrue_or_nil e
  | true => exact e
theorem pw_and (ha : PT X a tA) (hb : PW X (.BoolOp .And (b :: rest) pos) tB') : PW X (.BoolOp .And (a :: b :: rest) pos) (tAnd tA tB') := by
  intro wh pins s σ H Q I h
  refine isTrue_and (thn (ha pins s σ H _ I h) fun c s1 ⟨H1, I1, q1⟩ => ?_)
  cases c with
  | true => exact hb wh pins s1 σ H1 Q I1 q1
  | false => exact ⟨H1, I1, q1⟩
theorem pw_or (ha : PT X a tA) (hb : PW X (.BoolOp .Or (b :: rest) pos) tB') : PW X (.BoolOp .Or (a :: b :: rest) pos) (tOr tA tB') := by
  intro wh pins s σ H Q I h
  refine isTrue_or (thn (ha pins s σ H _ I h) fun c s1 ⟨H1, I1, q1⟩ => ?_)
  cases c with
  | true => exact ⟨H1, I1, q1⟩
  | false => exact hb wh pins s1 σ H1 Q I1 q1
theorem pt_not (ha : PT X a tA) : PT X (.UnaryOp .Not a pos) (tNot tA) := by
  intro pins s σ H Q I h
  exact isTrue_not (ha pins s σ H (fun c H1 => Q (!c) H1) I h)
/-- .. as values (bools) -/
noncomputable abbrev tAndV (ta tb : TE) : TE := fun σ H Q => ta σ H fun x H1 => ∃ c, x = .bl c ∧ if c = true then tb σ H1 Q else Q (.bl false) H1
noncomputable abbrev tOrV (ta tb : TE) : TE := fun σ H Q => ta σ H fun x H1 => ∃ c, x = .bl c ∧ if c = true then Q (.bl true) H1 else tb σ H1 Q
theorem pe_one {op} {t : TE} (h : PE X a t) : PE X (.BoolOp op [a] pos) t := fun pins s σ H Q I hw => BoolOp_one (h pins s σ H Q I hw)
theorem pe_and (ha : PE X a ta) (hb : PE X (.BoolOp .And (b :: rest) pos) tb) : PE X (.BoolOp .And (a :: b :: rest) pos) (tAndV ta tb) := by
  intro pins s σ H Q I h
  refine BoolOp_and (thn (ha pins s σ H _ I h) fun v s1 ⟨x, H1, I1, r1, q1⟩ => ?_)
  obtain ⟨c, rfl, q1⟩ := q1
  cases r1
  refine wpAny_truthy_bool ?_
  cases c with
  | true => exact hb pins s1 σ H1 Q I1 q1
  | false => exact ⟨.bl false, H1, I1, rfl, q1⟩
theorem pe_or (ha : PE X a ta) (hb : PE X (.BoolOp .Or (b :: rest) pos) tb) : PE X (.BoolOp .Or (a :: b :: rest) pos) (tOrV ta tb) := by
  intro pins s σ H Q I h
  refine BoolOp_or (thn (ha pins s σ H _ I h) fun v s1 ⟨x, H1, I1, r1, q1⟩ => ?_)
  obtain ⟨c, rfl, q1⟩ := q1
  cases r1
  refine wpAny_truthy_bool ?_
  cases c with
  | false => exact hb pins s1 σ H1 Q I1 q1
  | true => exact ⟨.bl true, H1, I1, rfl, q1⟩
/-- a if t else b -/
noncomputable abbrev tIf (t : TT) (ta tb : TE) : TE := fun σ H Q => t σ H fun c H1 => if c = true then ta σ H1 Q else tb σ H1 Q
theorem pe_ifExp {c : Expr} (hc : PT X c tA) (ha : PE X a ta) (hb : PE X b tb) : PE X (.IfExp c a b pos) (tIf tA ta tb) := by
  intro pins s σ H Q I h
  refine wpAny_IfExp (thn (hc pins s σ H _ I h) fun d s1 ⟨H1, I1, q1⟩ => ?_)
  cases d with
  | true => exact ha pins s1 σ H1 Q I1 q1
  | false => exact hb pins s1 σ H1 Q I1 q1
end
end L2

namespace L2
open PySem PySem.Spec PyProof.Rows

/-! ### a list, a tuple that is read: tracked, frozen, or an object of the module -/
noncomputable def SqL (K : PySem.W.Frag) (H : Hp) (a : Addr) (xs : List V) : Prop :=
  Rd H a (.lst xs) ∨
    ∃ (o : Obj) (its : Array Value) (n : Nat), K.lookup a = some o ∧ o.cls = .type "list" ∧ o.dict = none ∧ o.data = .seq its n ∧ its.size ≤ sizeLine ∧ Vals xs its.toList
noncomputable def SqT (K : PySem.W.Frag) (H : Hp) (a : Addr) (xs : List V) : Prop :=
  Rd H a (.tup xs) ∨
    ∃ (o : Obj) (its : Array Value) (n : Nat), K.lookup a = some o ∧ o.cls = .type "tuple" ∧ o.data = .seq its n ∧ its.size ≤ sizeLine ∧ Vals xs its.toList
noncomputable def absV : Value → Option V
  | .none => some .non
  | .bool b => some (.bl b)
  | .int i _ => some (.int i)
  | .str x _ => some (.str x)
  | .bytes b _ => some (.byt b)
  | .float b _ => some (.flt b)
  | .ref a => some (.ref a)
  | .type n => some (.ty n)
  | _ => none
theorem RelV.abs {x : V} {u : Value} (r : RelV x u) : absV u = some x := by
  cases x with
  | non => cases r; rfl
  | bl _ => cases r; rfl
  | int _ => obtain ⟨t, rfl⟩ := r; rfl
  | str _ => obtain ⟨t, rfl⟩ := r; rfl
  | byt _ => obtain ⟨t, rfl⟩ := r; rfl
  | flt _ => obtain ⟨t, rfl⟩ := r; rfl
  | ref _ => cases r; rfl
  | ty _ => cases r; rfl
theorem RelV.inj {x y : V} {u : Value} (r : RelV x u) (q : RelV y u) : x = y := Option.some.inj (r.abs.symm.trans q.abs)
theorem Vals.inj : ∀ {xs ys : List V} {us : List Value}, Vals xs us → Vals ys us → xs = ys
  | _, _, _, .nil, .nil => rfl
  | _, _, _, .cons r t, .cons r' t' => by rw [r.inj r', Vals.inj t t']
section
variable {X : Cx} {pins : List (Addr × Obj)} {σ : St} {H : Hp} {s : Shared} {a : Addr} {xs ys : List V}
theorem SqL.of {K : PySem.W.Frag} (h : H a = some (.lst xs)) : SqL K H a xs := .inl (.inl h)
theorem SqT.of {K : PySem.W.Frag} (h : H a = some (.tup xs)) : SqT K H a xs := .inl (.inl h)
theorem Inv.list (I : Inv X pins σ H s) (h : SqL X.K H a xs) : ∃ its : List Value, Vals xs its ∧ PlainL s.heap a its.toArray ∧ xs.length ≤ sizeLine := by
  rcases h with h | ⟨o, its, n, hk, hc, hd, hs, hz, r⟩
  · obtain ⟨z, its, n, r, e⟩ := h.ok I.hok
    exact ⟨its, r, ⟨_, n, e, rfl, rfl, rfl⟩, z⟩
  · refine ⟨its.toList, r, ⟨o, n, I.kIn a o hk, hc, hd, by simpa using hs⟩, ?_⟩
    have e := r.length
    simp only [Array.length_toList] at e
    omega
theorem Inv.tuple (I : Inv X pins σ H s) (h : SqT X.K H a xs) : ∃ its : List Value, Vals xs its ∧ IsTup s.heap a its.toArray ∧ xs.length ≤ sizeLine := by
  rcases h with h | ⟨o, its, n, hk, hc, hs, hz, r⟩
  · obtain ⟨z, its, r, p⟩ := h.ok I.hok
    exact ⟨its, r, p, z⟩
  · refine ⟨its.toList, r, ⟨o, I.kIn a o hk, hc, n, by simpa using hs⟩, ?_⟩
    have e := r.length
    simp only [Array.length_toList] at e
    omega
theorem Inv.list_inj (I : Inv X pins σ H s) (h : SqL X.K H a xs) (h' : SqL X.K H a ys) : xs = ys := by
  obtain ⟨its, r, ⟨o, n, e, _, _, d⟩, _⟩ := I.list h
  obtain ⟨its', r', ⟨o', n', e', _, _, d'⟩, _⟩ := I.list h'
  rw [e] at e'; cases e'
  rw [d] at d'
  injection d' with d1 _
  have : its = its' := by simpa using congrArg Array.toList d1
  subst this
  exact r.inj r'
theorem Inv.tuple_inj (I : Inv X pins σ H s) (h : SqT X.K H a xs) (h' : SqT X.K H a ys) : xs = ys := by
  obtain ⟨its, r, ⟨o, e, _, n, d⟩, _⟩ := I.tuple h
  obtain ⟨its', r', ⟨o', e', _, n', d'⟩, _⟩ := I.tuple h'
  rw [e] at e'; cases e'
  rw [d] at d'
  injection d' with d1 _
  have : its = its' := by simpa using congrArg Array.toList d1
  subst this
  exact r.inj r'
end

section
variable {X : Cx} {pins : List (Addr × Obj)} {σ : St} {H : Hp} {s : Shared} {E : Value → Shared → Prop}
end

/-! ### blocks and small statements -/
section
variable {X : Cx} {st : Stmt} {rest : List Stmt} {t u : TS} {e : Expr} {te : TE} {pos : Pos}
noncomputable abbrev tNext : TS := fun D σ H => D.nx σ H
noncomputable abbrev tSeq (t u : TS) : TS := fun D σ H => t { D with nx := u D } σ H
theorem pss_nil : PSs X [] tNext := fun _ _ σ H _ I h => wpAny_execs_nil ⟨σ, H, I, h⟩
theorem pss_cons (h1 : PS X st t) (h2 : PSs X rest u) : PSs X (st :: rest) (tSeq t u) := by
  intro pins s σ H D I h
  refine wpAny_execs_cons (thn (h1 pins s σ H { D with nx := u D } I h) fun f s1 q => ?_)
  cases f with
  | next =>
    obtain ⟨σ', H', I', q⟩ := q
    exact h2 pins s1 σ' H' D I' q
  | ret v => exact q
  | brk => exact q
  | cont => exact q
theorem pss_one (h1 : PS X st t) : PSs X [st] t := by
  intro pins s σ H D I h
  refine wpAny_execs_cons (thn (h1 pins s σ H D I h) fun f s1 q => ?_)
  cases f with
  | next => exact wpAny_execs_nil q
  | ret v => exact q
  | brk => exact q
  | cont => exact q
/-- in a def's body nothing is shown -/
theorem Inv.quiet {pins : List (Addr × Obj)} {σ : St} {H : Hp} {s : Shared} (I : Inv X pins σ H s) : interactive X.env = false := by simp [interactive, I.ok.kind]
/-- an expression whose value is dropped -/
noncomputable abbrev tDrop (te : TE) : TS := fun D σ H => te σ H fun _ H1 => D.nx σ H1
theorem ps_expr (he : PE X e te) (hs : swapsWith e none pos.line X.env = pure false := by rfl) : PS X (.Expr e pos) (tDrop te) := by
  intro pins s σ H D I h
  exact wpAny_Expr_any (thn (he pins s σ H _ I h) fun v s1 ⟨x, H1, I1, r1, q1⟩ => ⟨σ, H1, I1, q1⟩) I.quiet hs
noncomputable abbrev tRet (te : TE) : TS := fun D σ H => te σ H D.rt
theorem ps_ret (he : PE X e te) : PS X (.Return (some e) pos) (tRet te) := by
  intro pins s σ H D I h
  exact wpAny_Return_some (thn (he pins s σ H _ I h) fun v s1 ⟨x, H1, I1, r1, q1⟩ => ⟨x, σ, H1, I1, r1, q1⟩)
noncomputable abbrev tIfS (c : TT) (t u : TS) : TS := fun D σ H => c σ H fun b H1 => if b = true then t D σ H1 else u D σ H1
theorem ps_if {c : Expr} {a b : List Stmt} {tc : TT} (hc : PT X c tc) (ha : PSs X a t) (hb : PSs X b u) : PS X (.If c a b pos) (tIfS tc t u) := by
  intro pins s σ H D I h
  refine wpAny_If (thn (hc pins s σ H _ I h) fun d s1 ⟨H1, I1, q1⟩ => ?_)
  cases d with
  | true => exact ha pins s1 σ H1 D I1 q1
  | false => exact hb pins s1 σ H1 D I1 q1
end

/-! ### targets -/
noncomputable abbrev TG := V → St → Hp → (St → Hp → Prop) → Prop
noncomputable abbrev TGs := List V → St → Hp → (St → Hp → Prop) → Prop
noncomputable def PG (X : Cx) (target : Expr) (t : TG) : Prop :=
  ∀ (pins : List (Addr × Obj)) (s : Shared) (σ : St) (H : Hp) (v : V) (u : Value) (Q : St → Hp → Prop), Inv X pins σ H s → RelV v u → t v σ H Q →
    wpAny (model X.prog X.w) X.A (assign target X.env u) (fun _ s' => ∃ σ' H', Inv X pins σ' H' s' ∧ Q σ' H') X.xe s
/-- several targets, one after another -/
noncomputable def PGs (X : Cx) (ts : List Expr) (t : TGs) : Prop :=
  ∀ (pins : List (Addr × Obj)) (s : Shared) (σ : St) (H : Hp) (vs : List V) (us : List Value) (Q : St → Hp → Prop), Inv X pins σ H s → Vals vs us → t vs σ H Q →
    wpAny (model X.prog X.w) X.A (assignInOrder ((assignEach ts X.env).map (·.2)) us) (fun _ s' => ∃ σ' H', Inv X pins σ' H' s' ∧ Q σ' H') X.xe s
/-- o[i] = v, by values -/
noncomputable abbrev TSet := V → V → V → Hp → (Hp → Prop) → Prop
noncomputable def PSet (X : Cx) (t : TSet) : Prop :=
  ∀ (pins : List (Addr × Obj)) (s : Shared) (σ : St) (H : Hp) (o i v : V) (ov iv u : Value) (Q : Hp → Prop), Inv X pins σ H s → RelV o ov → RelV i iv → RelV v u → t o i v H Q →
    wpAny (model X.prog X.w) X.A (setItem ov iv u) (fun _ s' => ∃ H', Inv X pins σ H' s' ∧ Q H') X.xe s
/-- a op= b, by values -/
noncomputable abbrev TIp := V → V → Hp → VK → Prop
noncomputable def PIp (X : Cx) (op : Operator) (t : TIp) : Prop :=
  ∀ (pins : List (Addr × Obj)) (s : Shared) (σ : St) (H : Hp) (x y : V) (v u : Value) (Q : VK), Inv X pins σ H s → RelV x v → RelV y u → t x y H Q →
    wpAny (model X.prog X.w) X.A (inplaceOp op v u) (EP X pins σ Q) X.xe s
section
variable {X : Cx} {pos : Pos}
noncomputable abbrev gName (i : Nat) : TG := fun v σ H Q => Q (σ.set i (some v)) H
theorem pg_name {i : Nat} {x : Str} (hN : X.N.Nodup) (hi : X.N[i]? = some x) (hx : Loc X.env.scope x) (hf : X.fn x = true ∨ X.env.scope.names.lookup x = some .local := by first | exact .inl rfl | exact .inr rfl | assumption) : PG X (.Name x pos) (gName i) := by
  intro pins s σ H v u Q I r h
  exact wpAny_assign_Name (store_ok I hN hi hx r (fun s' I' => ⟨_, H, I', h⟩) hf)
noncomputable def gNil : TGs := fun vs σ H Q => vs = [] ∧ Q σ H
noncomputable def gCons (t : TG) (u : TGs) : TGs := fun vs σ H Q => ∃ v r, vs = v :: r ∧ t v σ H fun σ' H' => u r σ' H' Q
theorem pgs_nil : PGs X [] gNil := by
  intro pins s σ H vs us Q I r h
  obtain ⟨e, h⟩ := h
  subst e
  cases r
  exact assignInOrder_nil ⟨σ, H, I, h⟩
theorem pgs_cons {e : Expr} {es : List Expr} {t : TG} {u : TGs} (h1 : PG X e t) (h2 : PGs X es u)
    (hs : (assignEach (e :: es) X.env).map (·.2) = assign e X.env :: (assignEach es X.env).map (·.2) := by rfl) : PGs X (e :: es) (gCons t u) := by
  intro pins s σ H vs us Q I r h
  obtain ⟨v, vr, e1, h⟩ := h
  subst e1
  cases r with
  | cons r rr =>
    rw [hs]
    refine assignInOrder_cons (thn (h1 pins s σ H _ _ _ I r h) fun _ s1 ⟨σ1, H1, I1, q1⟩ => ?_)
    exact h2 pins s1 σ1 H1 _ _ Q I1 rr q1
/-- (a, b, ..) = a tuple of that length -/
noncomputable def gTup (K : PySem.W.Frag) (n : Nat) (t : TGs) : TG := fun v σ H Q => ∃ a xs, v = .ref a ∧ SqT K H a xs ∧ xs.length = n ∧ t xs σ H Q
theorem pg_tup {es : List Expr} {k : Nat} {t : TGs} {n : Nat} (hc : X.calm = true) (h : PGs X es t)
    (hn : (assignEach es X.env).length = n := by rfl) (hst : (assignEach es X.env).findIdx? (·.1) = none := by rfl) : PG X (.Tuple es k pos) (gTup X.K n t) := by
  intro pins s σ H v u Q I r hw
  obtain ⟨a, xs, e1, hq, hl, hw⟩ := hw
  subst e1
  cases r
  obtain ⟨its, rv, ht, hz⟩ := I.tuple hq
  refine assign_Tuple_tuple (I.ok.hd hc) ht (by simp [hn, ← hl, rv.length]) hst fun h' hx => ?_
  have I1 : Inv X pins σ H { s with heap := h' } := I.kept (t' := s.toks) fun b o e => hx b o (Nat.ne_of_lt (Heap.lt_size e)) e
  exact h pins _ σ H xs _ Q I1 (by simpa using rv) hw
/-- o[i] = .. -/
noncomputable def gSub (to ti : TE) (t : TSet) : TG := fun v σ H Q => to σ H fun o H1 => ti σ H1 fun i H2 => t o i v H2 fun H3 => Q σ H3
theorem pg_sub {o i : Expr} {to ti : TE} {t : TSet} (ho : PE X o to) (hi : PE X i ti) (hs : PSet X t)
    (ha : ∀ v, assign (.Subscript o i pos) X.env v = (do
      let ov ← holding [v] (eval o X.env)
      let iv ← holding [v, ov] (eval i X.env)
      standAt pos
      holding [v, ov, iv] (setItem ov iv v)
      release [v, ov, iv] []) := by intro _; rfl) : PG X (.Subscript o i pos) (gSub to ti t) := by
  intro pins s σ H v u Q I r h
  rw [ha]
  refine wpAny_bind (wpAny_holding (thn (ho pins s σ H _ I h) fun ov s1 ⟨x, H1, I1, r1, q1⟩ => ?_))
  refine wpAny_bind (wpAny_holding (thn (hi pins s1 σ H1 _ I1 q1) fun iv s2 ⟨y, H2, I2, r2, q2⟩ => ?_))
  refine wpAny_bind (wpAny_standAt (wpAny_bind (wpAny_holding (thn (hs pins s2 σ H2 x y v ov iv u _ I2 r1 r2 r q2) fun _ s3 ⟨H3, I3, q3⟩ => ?_))))
  exact wpAny_release ⟨σ, H3, I3, q3⟩
/-- target = value -/
noncomputable abbrev tAsg (te : TE) (g : TG) : TS := fun D σ H => te σ H fun x H1 => g x σ H1 D.nx
theorem ps_asg {tg e : Expr} {te : TE} {g : TG} (he : PE X e te) (hg : PG X tg g) (hs : swapsWithSole [tg] e pos.line X.env = pure false := by rfl) (hw : swappedStores [tg] e X.env = pure none := by rfl)
    (h1 : (assignEach [tg] X.env).map (·.2) = [assign tg X.env] := by rfl) : PS X (.Assign [tg] e pos) (tAsg te g) := by
  intro pins s σ H D I h
  refine wpAny_Assign_stores (thn (he pins s σ H _ I h) fun v s1 ⟨x, H1, I1, r1, q1⟩ => ?_) hs hw
  rw [h1]
  exact thn (hg pins s1 σ H1 x v _ I1 r1 q1) fun _ s2 q => q
/-- name = value -/
theorem ps_set {i : Nat} {x : Str} {e : Expr} {te : TE} {pos' : Pos} (hN : X.N.Nodup) (hi : X.N[i]? = some x) (hx : Loc X.env.scope x) (he : PE X e te) (hs : swapsWith e (some (.Name x pos')) pos.line X.env = pure false := by rfl) (hf : X.fn x = true ∨ X.env.scope.names.lookup x = some .local := by first | exact .inl rfl | exact .inr rfl | assumption) :
    PS X (.Assign [.Name x pos'] e pos) (tAsg te (gName i)) := by
  intro pins s σ H D I h
  refine wpAny_Assign_Name (thn (he pins s σ H _ I h) fun v s1 ⟨y, H1, I1, r1, q1⟩ => ?_) hs
  exact store_ok I1 hN hi hx r1 (fun s2 I2 => ⟨_, H1, I2, q1⟩) hf
/-- name op= e -/
noncomputable abbrev tAug (i : Nat) (te : TE) (ti : TIp) : TS := fun D σ H => ∃ x, σ[i]? = some (some x) ∧ te σ H fun y H1 => ti x y H1 fun z H2 => D.nx (σ.set i (some z)) H2
theorem ps_aug {i : Nat} {x : Str} {e : Expr} {te : TE} {op : Operator} {ti : TIp} {pos' : Pos} (hN : X.N.Nodup) (hi : X.N[i]? = some x) (hx : Loc X.env.scope x) (he : PE X e te) (ho : PIp X op ti) (hf : X.fn x = true ∨ X.env.scope.names.lookup x = some .local := by first | exact .inl rfl | exact .inr rfl | assumption) :
    PS X (.AugAssign (.Name x pos') op e pos) (tAug i te ti) := by
  intro pins s σ H D I h
  obtain ⟨v, e1, h⟩ := h
  obtain ⟨m, hn, hl⟩ := I.loc
  have vis : Vis X.env.scope x := by rcases hx with k | k; exact .inl k; exact .inr (.inl k)
  obtain ⟨u, r, l⟩ := hl i x v hi e1 vis
  refine wpAny_AugAssign_Name ?_
  have go : wpAny (model X.prog X.w) X.A (eval e X.env) (fun w s₂ => wpAny (model X.prog X.w) X.A (inplaceOp op u w) (fun r s₃ => wpAny (model X.prog X.w) X.A (storeName X.env x r) (fun _ => SP X pins D .next) X.xe s₃) X.xe s₂) X.xe s := by
    refine thn (he pins s σ H _ I h) fun w s1 ⟨y, H1, I1, r1, q1⟩ => ?_
    refine thn (ho pins s1 σ H1 v y u w _ I1 r r1 q1) fun z s2 ⟨zv, H2, I2, r2, q2⟩ => ?_
    exact store_ok I2 hN hi hx r2 (fun s3 I3 => ⟨_, H2, I3, q2⟩) hf
  rcases l with ⟨hk, hm⟩ | ⟨hk, c, hc, hcell⟩
  · exact wpAny_loadName_local I.ok.kind hk hn hm go
  · rcases hk with hk | hk
    · exact wpAny_loadName_cell I.ok.kind hk hc hcell go
    · rcases hx with k | k
      · have : X.env.scope.names.lookup x = some .free := hk
        rw [k] at this; cases this
      · have : X.env.scope.names.lookup x = some .free := hk
        rw [k] at this; cases this
/-- ints -/
noncomputable def ipI (f : Int → Int → Int) : TIp := fun x y H Q => ∃ i j, x = .int i ∧ y = .int j ∧ Q (.int (f i j)) H
theorem ip_sub : PIp X .Sub (ipI fun i j => i - j) := by
  intro pins s σ H x y v u Q I r1 r2 h
  obtain ⟨i, j, e1, e2, q⟩ := h
  subst e1; subst e2
  obtain ⟨t, rfl⟩ := r1
  obtain ⟨t', rfl⟩ := r2
  exact isub_int ⟨.int _, H, I.tok _, ⟨_, rfl⟩, q⟩
end

/-! ### while -/
section
variable {X : Cx} {pos : Pos}
/-- the invariant W with its measure -/
noncomputable def tWhile (c : TT) (tb : TS) : TS := fun D σ H => ∃ W : Nat → St → Hp → Prop, (∃ m, W m σ H) ∧ ∀ m σ H, W m σ H →
  c σ H fun b H1 => if b = true then ∃ N : St → Hp → Prop, (∀ σ' H', N σ' H' → ∃ m', m' < m ∧ W m' σ' H') ∧ tb { D with nx := N, ct := N, bk := D.nx } σ H1 else D.nx σ H1
theorem ps_while {c : Expr} {body : List Stmt} {tc : TT} {tb : TS} (hp : PassesOwn (model X.prog X.w) X.A X.env X.xe) (hc : PT X c tc) (hb : PSs X body tb) : PS X (.While c body [] pos) (tWhile tc tb) := by
  intro pins s σ H D I h
  obtain ⟨W, ⟨m0, w0⟩, turn⟩ := h
  refine wpAny_While (codeAny_whileLoop (fun n s' => ∃ σ' H', Inv X pins σ' H' s' ∧ W n σ' H') ?_ m0 ⟨σ, H, I, w0⟩)
  rintro n s1 ⟨σ1, H1, I1, w1⟩
  refine wpAny_passesOwn hp (thn (hc pins s1 σ1 H1 _ I1 (turn n σ1 H1 w1)) fun b s2 ⟨H2, I2, q2⟩ => ?_)
  cases b with
  | true =>
    obtain ⟨N, hN, q2⟩ := q2
    rw [if_pos rfl]
    refine wpAny_passesOwn hp (thn (hb pins s2 σ1 H2 _ I2 q2) fun f s3 q3 => ?_)
    cases f with
    | next =>
      obtain ⟨σ3, H3, I3, n3⟩ := q3
      obtain ⟨m', hm, w3⟩ := hN σ3 H3 n3
      exact ⟨m', hm, σ3, H3, I3, w3⟩
    | cont =>
      obtain ⟨σ3, H3, I3, n3⟩ := q3
      obtain ⟨m', hm, w3⟩ := hN σ3 H3 n3
      exact ⟨m', hm, σ3, H3, I3, w3⟩
    | brk => exact q3
    | ret v => exact q3
  | false =>
    rw [if_neg Bool.false_ne_true]
    exact wpAny_execs_nil ⟨σ1, H2, I2, q2⟩
end

/-! ### what a loop or a comprehension walks -/
/-- at turn i: it yields x (the heap may grow), or it stops -/
structure It where
  go : Nat → Hp → Prop
  yld : Nat → Hp → V → Hp → Prop
  stop : Nat → Hp → Prop
/-- the iterator's own objects may turn: they are not the frame's, not pinned, younger than the entry (or a comprehension's own) -/
noncomputable def FpOk (X : Cx) (pins : List (Addr × Obj)) (H : Hp) (b : Addr) : Prop :=
  H b = none ∧ b ≠ X.env.locals ∧ b ∉ X.fs ∧ (b ∈ X.ex ∨ X.s₀.heap.objs.size ≤ b) ∧ (∀ x c, X.env.cells.lookup x = some c → c ≠ b) ∧ ∀ p ∈ X.pn ++ pins, p.1 ≠ b
theorem Inv.fpOk {X : Cx} {pins : List (Addr × Obj)} {σ : St} {H H' : Hp} {s : Shared} {b : Addr} (I : Inv X pins σ H s) (hb : s.heap.objs.size ≤ b) (hn : H' b = none) : FpOk X pins H' b := by
  refine ⟨hn, Nat.ne_of_gt (Nat.lt_of_lt_of_le I.lt hb), I.nofs hb, .inr (Nat.le_trans I.sz hb), fun x c e z => ?_, fun p hp z => ?_⟩
  · obtain ⟨v, q⟩ := I.cell x c e
    exact absurd (Nat.lt_of_lt_of_le q.lt (by rw [z]; exact hb)) (Nat.lt_irrefl _)
  · exact absurd (Nat.lt_of_lt_of_le (Heap.lt_size (I.pin p hp).1) (by rw [z]; exact hb)) (Nat.lt_irrefl _)
structure Turn (P : Program) (w : World) (K : PySem.W.Frag) (tg : Expr) (J : It) (fp : List Addr) (it : Addr) (tn : Nat → Heap → Prop) : Prop where
  mem : it ∈ fp
  obj : ∀ i h, tn i h → ∀ b ∈ fp, ∃ o, h.get? b = some o ∧ ∀ v, o.data ≠ .cell v
  keep : ∀ i h h', tn i h → (∀ b ∈ fp, ∀ o, h.get? b = some o → h'.get? b = some o) → tn i h'
  item : ∀ (X : Cx), X.prog = P → X.w = w → X.K = K → X.calm = true → ∀ (i : Nat) (pins : List (Addr × Obj)) (s : Shared) (σ : St) (H : Hp) (E : Value → Shared → Prop), Inv X pins σ H s → (∀ b ∈ fp, FpOk X pins H b) → tn i s.heap → J.go i H →
    wpAny (model P w) X.A (pyNext (.ref it)) (fun r s1 => ∃ u, r = some u ∧
      wpAny (model P w) X.A (letOwnedTupleGo tg (.ref it) u) (fun _ s2 => ∃ x H', Inv X pins σ H' s2 ∧ RelV x u ∧ J.yld i H x H' ∧ tn (i + 1) s2.heap ∧ ∀ b ∈ fp, H' b = none) E s1) E s
  done : ∀ (X : Cx), X.prog = P → X.w = w → X.K = K → X.calm = true → ∀ (i : Nat) (pins : List (Addr × Obj)) (s : Shared) (σ : St) (H : Hp) (E : Value → Shared → Prop), Inv X pins σ H s → (∀ b ∈ fp, FpOk X pins H b) → tn i s.heap → J.stop i H →
    wpAny (model P w) X.A (pyNext (.ref it)) (fun r s1 => r = none ∧ Inv X pins σ H s1) E s
  self : ∀ (A : Around) (i : Nat) (s : Shared) (Q : Value → Shared → Prop) (E : Value → Shared → Prop), tn i s.heap → Q (.ref it) s → wpAny (model P w) A (pyIter (.ref it)) Q E s
noncomputable abbrev TI := St → Hp → (It → Hp → Prop) → Prop
/-- an iterator has come -/
noncomputable def PIE (X : Cx) (pins : List (Addr × Obj)) (σ : St) (tg : Expr) (R : It → Hp → Prop) (itv : Value) (s2 : Shared) : Prop :=
  ∃ (it : Addr) (fp : List Addr) (tn : Nat → Heap → Prop) (J : It) (H' : Hp), itv = .ref it ∧ Inv X pins σ H' s2 ∧ Turn X.prog X.w X.K tg J fp it tn ∧ tn 0 s2.heap ∧ (∀ b ∈ fp, FpOk X pins H' b) ∧ R J H'
noncomputable def PI (X : Cx) (tg iter : Expr) (wi : TI) : Prop :=
  ∀ (pins : List (Addr × Obj)) (s : Shared) (σ : St) (H : Hp) (R : It → Hp → Prop), Inv X pins σ H s → wi σ H R →
    wpAny (model X.prog X.w) X.A (eval iter X.env) (fun v s1 => wpAny (model X.prog X.w) X.A (pyIter v) (PIE X pins σ tg R) X.xe s1) X.xe s

/-- the step ahead of the store is nothing for an iterator that keeps no tuple -/
theorem go_of {M : Model} {A : Around} {E : Value → Shared → Prop} {s : Shared} {tg : Expr} {it : Addr} {u : Value} {o : Obj} {n : String} {vs : Array Value} {Q : Unit → Shared → Prop} (ho : s.heap.get? it = some o) (hc : o.cls = .type n) (hd : o.data = .fields vs)
    (hn : ["enumerate", "zip", "dict_itemiterator", "dict_reverseitemiterator", "odict_iterator", "itertools.zip_longest", "itertools.pairwise"].contains n = false) (hQ : Q () s) : wpAny M A (letOwnedTupleGo tg (.ref it) u) Q E s := by
  unfold letOwnedTupleGo
  cases tg <;> first
    | exact wpAny_pure hQ
    | (cases u <;> first
        | exact wpAny_pure hQ
        | (refine wpAny_bind (wpAny_load ho ?_)
           rw [hc, hd]
           show wpAny M A (if (["enumerate", "zip", "dict_itemiterator", "dict_reverseitemiterator", "odict_iterator", "itertools.zip_longest", "itertools.pairwise"].contains n && vs[0]? == some (rawInt _)) = true then _ else _) Q E s
           rw [if_neg (by intro h; rw [hn, Bool.false_and] at h; cases h)]
           exact wpAny_pure hQ))

/-- the list at a, as it stands at each turn (a loop may append to it) -/
noncomputable def Itl (K : PySem.W.Frag) (a : Addr) : It :=
  ⟨fun i H => ∃ xs x, SqL K H a xs ∧ xs[i]? = some x, fun i H x H' => H' = H ∧ ∀ xs, SqL K H a xs → xs[i]? = some x, fun i H => ∃ xs, SqL K H a xs ∧ xs.length ≤ i⟩
noncomputable def Itt (K : PySem.W.Frag) (a : Addr) : It :=
  ⟨fun i H => ∃ xs x, SqT K H a xs ∧ xs[i]? = some x, fun i H x H' => H' = H ∧ ∀ xs, SqT K H a xs → xs[i]? = some x, fun i H => ∃ xs, SqT K H a xs ∧ xs.length ≤ i⟩
/-- lo, lo + 1, .. (n of them) -/
noncomputable def Itr (lo : Int) (n : Nat) : It := ⟨fun i _ => i < n, fun i H x H' => H' = H ∧ x = .int (lo + i), fun i _ => n ≤ i⟩
theorem turn_list {P : Program} {w : World} {K : PySem.W.Frag} {tg : Expr} (a it : Addr) : Turn P w K tg (Itl K a) [it] it (fun i h => h.IsListIter it a i) where
  mem := by simp
  obj := fun i h st b hb => by
    have e : b = it := by simpa using hb
    subst e
    obtain ⟨o, e, c, d⟩ := st
    exact ⟨o, e, fun v z => by rw [d] at z; cases z⟩
  keep := fun i h h' st k => st.at fun o e => k it (by simp) o e
  item := by
    intro X hP hw hK hc i pins s σ H E I hf st hg
    subst hP hw hK
    obtain ⟨xs, x, hq, hx⟩ := hg
    obtain ⟨its, rv, p, hz⟩ := I.list hq
    obtain ⟨u, hu, ru⟩ := rv.get hx
    obtain ⟨f0, f1, f2, f3, f4, f5⟩ := hf it (by simp)
    refine wpAny_pyNext_list_item st p.isList (x := u) (by simpa using hu) fun h' st' sb => ?_
    have I1 : Inv X pins σ H { s with heap := h' } := I.turned (t' := s.toks) (fun b o hb e => (sb.2 b hb).trans e) f0 f1 f3 f4 f5
    obtain ⟨o, e, c, d⟩ := id st'
    exact ⟨u, rfl, go_of (s := { s with heap := h' }) e c d (by decide) ⟨x, H, I1, ru, ⟨rfl, fun ys hy => by rw [I.list_inj hy hq]; exact hx⟩, st', fun b hb => (hf b hb).1⟩⟩
  done := by
    intro X hP hw hK hc i pins s σ H E I hf st hg
    subst hP hw hK
    obtain ⟨xs, hq, hx⟩ := hg
    obtain ⟨its, rv, p, hz⟩ := I.list hq
    obtain ⟨f0, f1, f2, f3, f4, f5⟩ := hf it (by simp)
    have hl := rv.length
    exact wpAny_pyNext_list_end (I.ok.hd hc) st p.isList (by simp; omega) fun h' eb => ⟨rfl, I.turned (t' := s.toks) (fun b o hb e => eb b o hb e) f0 f1 f3 f4 f5⟩
  self := fun _ _ _ _ _ st h => wpAny_pyIter_listiter st h
theorem turn_tuple {P : Program} {w : World} {K : PySem.W.Frag} {tg : Expr} (a it : Addr) : Turn P w K tg (Itt K a) [it] it (fun i h => h.IsTupleIter it a i) where
  mem := by simp
  obj := fun i h st b hb => by
    have e : b = it := by simpa using hb
    subst e
    obtain ⟨o, e, c, d⟩ := st
    exact ⟨o, e, fun v z => by rw [d] at z; cases z⟩
  keep := fun i h h' st k => st.at fun o e => k it (by simp) o e
  item := by
    intro X hP hw hK hc i pins s σ H E I hf st hg
    subst hP hw hK
    obtain ⟨xs, x, hq, hx⟩ := hg
    obtain ⟨its, rv, p, hz⟩ := I.tuple hq
    obtain ⟨u, hu, ru⟩ := rv.get hx
    obtain ⟨f0, f1, f2, f3, f4, f5⟩ := hf it (by simp)
    refine wpAny_pyNext_tuple_item st (show s.heap.IsTuple a its.toArray from p) (x := u) (by simpa using hu) fun h' st' sb => ?_
    have I1 : Inv X pins σ H { s with heap := h' } := I.turned (t' := s.toks) (fun b o hb e => (sb.2 b hb).trans e) f0 f1 f3 f4 f5
    obtain ⟨o, e, c, d⟩ := id st'
    exact ⟨u, rfl, go_of (s := { s with heap := h' }) e c d (by decide) ⟨x, H, I1, ru, ⟨rfl, fun ys hy => by rw [I.tuple_inj hy hq]; exact hx⟩, st', fun b hb => (hf b hb).1⟩⟩
  done := by
    intro X hP hw hK hc i pins s σ H E I hf st hg
    subst hP hw hK
    obtain ⟨xs, hq, hx⟩ := hg
    obtain ⟨its, rv, p, hz⟩ := I.tuple hq
    obtain ⟨f0, f1, f2, f3, f4, f5⟩ := hf it (by simp)
    have hl := rv.length
    exact wpAny_pyNext_tuple_end (I.ok.hd hc) st (show s.heap.IsTuple a its.toArray from p) (by simp; omega) fun h' eb => ⟨rfl, I.turned (t' := s.toks) (fun b o hb e => eb b o hb e) f0 f1 f3 f4 f5⟩
  self := fun _ _ _ _ _ st h => wpAny_pyIter_tupleiter st h
theorem turn_range {P : Program} {w : World} {K : PySem.W.Frag} {tg : Expr} (it : Addr) (lo : Int) (n : Nat) : Turn P w K tg (Itr lo n) [it] it (fun i h => IsRangeIter h it (lo + (i : Nat) * 1) ((n : Int) - (i : Nat)) 1) where
  mem := by simp
  obj := fun i h st b hb => by
    have e : b = it := by simpa using hb
    subst e
    exact ⟨_, st, fun v z => by
      have z' : Data.fields _ = Data.cell v := z
      cases z'⟩
  keep := fun i h h' st k => k it (by simp) _ st
  item := by
    intro X hP hw hK hc i pins s σ H E I hf st hg
    subst hP hw hK
    obtain ⟨f0, f1, f2, f3, f4, f5⟩ := hf it (by simp)
    have W := Walks.range (prog := X.prog) (w := X.w) (I.ok.hd hc) it lo 1 n
    refine W.item i s _ _ hg st fun v h' tk hv st' kk => ?_
    obtain ⟨t, rfl⟩ := hv
    have I1 : Inv X pins σ H { s with heap := h', toks := tk } := I.turned (fun b o hb e => kk b o (by simpa using hb) e) f0 f1 f3 f4 f5
    refine ⟨_, rfl, go_of (s := { s with heap := h', toks := tk }) (n := "range_iterator") st' rfl rfl (by decide) ⟨.int (lo + i), H, I1, ⟨t, ?_⟩, ⟨rfl, rfl⟩, st', fun b hb => (hf b hb).1⟩⟩
    rw [Int.mul_one]
  done := by
    intro X hP hw hK hc i pins s σ H E I hf st hg
    subst hP hw hK
    obtain ⟨f0, f1, f2, f3, f4, f5⟩ := hf it (by simp)
    exact wpAny_pyNext_range_end (I.ok.hd hc) st (by have : n ≤ i := hg; omega) fun h' eb => ⟨rfl, I.turned (t' := s.toks) (fun b o hb e => eb b o hb e) f0 f1 f3 f4 f5⟩
  self := fun _ _ _ _ _ st h => wpAny_pyIter_rangeiter st h
end L2

namespace L2
open PySem PySem.Spec PyProof.Rows
section
variable {X : Cx} {tg : Expr}
noncomputable abbrev iList (K : PySem.W.Frag) (tl : TE) : TI := fun σ H R => tl σ H fun x H1 => ∃ a, x = .ref a ∧ (∃ xs, SqL K H1 a xs) ∧ R (Itl K a) H1
theorem pi_list {l : Expr} {tl : TE} (hl : PE X l tl) : PI X tg l (iList X.K tl) := by
  intro pins s σ H R I h
  refine thn (hl pins s σ H _ I h) fun v s1 ⟨x, H1, I1, r1, q1⟩ => ?_
  obtain ⟨a, e, ⟨xs, hq⟩, q⟩ := q1
  subst e
  cases r1
  obtain ⟨its, rv, p, hz⟩ := I1.list hq
  refine wpAny_pyIter_list p.isList ?_
  refine ⟨s1.heap.objs.size, [s1.heap.objs.size], _, _, H1, rfl, I1.kept (t' := s1.toks) fun b o e => Heap.get?_push_of_some _ e, turn_list a _, ⟨_, Heap.get?_push_size _ rfl, rfl, rfl⟩, fun b hb => ?_, q⟩
  have e : b = s1.heap.objs.size := by simpa using hb
  subst e
  exact I1.fpOk (Nat.le_refl _) (I1.hok.fresh (Nat.le_refl _))
/-- a range object just made, walked -/
theorem range_it {pins : List (Addr × Obj)} {σ : St} {H : Hp} {s : Shared} {R : It → Hp → Prop} {E : Value → Shared → Prop} {lo hi : Int} {t u v : Tok} {tk : Nat} (I : Inv X pins σ H s) (h1 : -(2 ^ 62) ≤ lo) (h2 : lo < 2 ^ 62) (h3 : -(2 ^ 62) ≤ hi) (h4 : hi < 2 ^ 62)
    (q : R (Itr lo (hi - lo).toNat) H) : wpAny (model X.prog X.w) X.A (pyIter (.ref s.heap.objs.size)) (PIE X pins σ tg R) E { s with heap := s.heap.push { cls := .type "range", data := .fields #[.int lo t, .int hi u, .int 1 v] }, toks := tk } := by
  refine wpAny_pyIter_range (IsRange.new ..) (small_one h1 h2 h3 h4) ?_
  have I1 : Inv X pins σ H { s with heap := s.heap.push { cls := .type "range", data := .fields #[.int lo t, .int hi u, .int 1 v] }, toks := tk } := I.kept fun b o e => Heap.get?_push_of_some _ e
  refine ⟨(s.heap.push { cls := .type "range", data := .fields #[.int lo t, .int hi u, .int 1 v] }).objs.size, [(s.heap.push { cls := .type "range", data := .fields #[.int lo t, .int hi u, .int 1 v] }).objs.size], _, _, H, rfl,
    I1.kept (t' := tk) fun b o e => Heap.get?_push_of_some _ e, turn_range _ lo (hi - lo).toNat, ?_, fun b hb => ?_, q⟩
  · have e1 : lo + ((0 : Nat) : Int) * 1 = lo := by simp
    have e2 : (((hi - lo).toNat : Nat) : Int) - ((0 : Nat) : Int) = Builtin.Range.rangeSize lo hi 1 := by rw [rangeSize_one]; split <;> omega
    show IsRangeIter _ _ (lo + ((0 : Nat) : Int) * 1) ((((hi - lo).toNat : Nat) : Int) - ((0 : Nat) : Int)) 1
    rw [e1, e2]
    exact Heap.get?_push_size _ rfl
  · have e : b = (s.heap.push { cls := .type "range", data := .fields #[.int lo t, .int hi u, .int 1 v] }).objs.size := by simpa using hb
    subst e
    exact I1.fpOk (Nat.le_refl _) (I1.hok.fresh (Nat.le_refl _))
noncomputable abbrev iRng1 (ta : TA) : TI := fun σ H R => ta σ H fun vs H1 => ∃ j : Int, vs = [.int j] ∧ -(2 ^ 62) ≤ j ∧ j < 2 ^ 62 ∧ R (Itr 0 j.toNat) H1
theorem pi_range1 {a : Expr} {ta : TA} {p pos : Pos} (hg : Gl X "range") (hm : X.mg "range" = none) (ha : PA X [a] ta) (hs : starEach [a] X.env = [(false, eval a X.env)] := by rfl) : PI X tg (.Call (.Name "range" p) [a] [] pos) (iRng1 ta) := by
  intro pins s σ H R I h
  refine Call_ (ld_blt I hg hm boot_range (PyProof.Rows.callWith_type1 (thn (ha pos pins s σ H _ I h) fun us s1 ⟨vs, H1, I1, r1, q1⟩ => ?_) hs rfl))
  obtain ⟨j, e, q1, q2, q⟩ := q1
  subst e
  cases r1 with
  | cons r rr =>
    cases rr
    obtain ⟨t, rfl⟩ := r
    exact call_range_1 (range_it I1 (by omega) (by omega) q1 q2 (by simpa using q))
/-! ### for -/
/-- W: the invariant by the turn and a measure; N: what the body is to reach -/
noncomputable abbrev tFor (wi : TI) (g : TG) (tb : TS) : TS := fun D σ H => wi σ H fun J H1 => ∃ W : Nat → Nat → St → Hp → Prop, (∃ m, W 0 m σ H1) ∧ ∀ i m σ H, W i m σ H →
  (J.stop i H ∧ D.nx σ H) ∨ (J.go i H ∧ ∃ N : St → Hp → Prop, (∀ σ' H', N σ' H' → ∃ m', m' < m ∧ W (i + 1) m' σ' H') ∧ ∀ x H', J.yld i H x H' → g x σ H' fun σ2 H2 => tb { D with nx := N, ct := N, bk := D.nx } σ2 H2)
/-- the records at fp as they stand -/
noncomputable def pinsAt (fp : List Addr) (h : Heap) : List (Addr × Obj) := fp.filterMap fun b => (h.get? b).map fun o => (b, o)
theorem mem_pinsAt {fp : List Addr} {h : Heap} {b : Addr} {o : Obj} (hb : b ∈ fp) (e : h.get? b = some o) : (b, o) ∈ pinsAt fp h := List.mem_filterMap.mpr ⟨b, hb, by rw [e]; rfl⟩
theorem of_pinsAt {fp : List Addr} {h : Heap} {p : Addr × Obj} (hp : p ∈ pinsAt fp h) : p.1 ∈ fp ∧ h.get? p.1 = some p.2 := by
  obtain ⟨b, hb, e⟩ := List.mem_filterMap.mp hp
  cases q : h.get? b with
  | none => rw [q] at e; cases e
  | some o =>
    rw [q] at e
    have e' : (b, o) = p := Option.some.inj e
    subst e'
    exact ⟨hb, q⟩
theorem Inv.pinned {pins : List (Addr × Obj)} {σ : St} {H : Hp} {s : Shared} {fp : List Addr} (I : Inv X pins σ H s) (hf : ∀ b ∈ fp, FpOk X pins H b) (ho : ∀ b ∈ fp, ∃ o, s.heap.get? b = some o ∧ ∀ v, o.data ≠ .cell v) : Inv X (pins ++ pinsAt fp s.heap) σ H s :=
  I.pins_of fun p hp => (List.mem_append.mp hp).elim (fun z => I.pin p (List.mem_append_right _ z)) fun z => by
    obtain ⟨hb, e⟩ := of_pinsAt z
    obtain ⟨f0, f1, f2, _⟩ := hf p.1 hb
    obtain ⟨o, e', d⟩ := ho p.1 hb
    rw [e] at e'; cases e'
    exact ⟨e, f0, f1, f2, d⟩
theorem Inv.unpinned {pins pl : List (Addr × Obj)} {σ : St} {H : Hp} {s : Shared} (I : Inv X (pins ++ pl) σ H s) : Inv X pins σ H s := I.pins_of fun p hp => I.pin p (List.mem_append_right _ (List.mem_append_left _ hp))
theorem ps_for {iter : Expr} {body : List Stmt} {wi : TI} {g : TG} {tb : TS} {pos : Pos} (hp : PassesOwn (model X.prog X.w) X.A X.env X.xe) (hc : X.calm = true) (hi : PI X tg iter wi) (hg : PG X tg g) (hb : PSs X body tb)
    (hs : ∀ x, foldedSetIterable iter X.env x = pure x := by intro _; rfl) : PS X (.For tg iter body [] pos) (tFor wi g tb) := by
  intro pins s σ H D I h
  refine wpAny_For (thn (hi pins s σ H _ I h) fun v s1 h1 => thn h1 fun itv s2 h2 => ?_) hs
  obtain ⟨it, fp, tn, J, H2, e, I2, T, st2, f2, W, ⟨m0, w0⟩, turn⟩ := h2
  subst e
  -- what stays true of the iterator's objects through the loop
  have stat : ∀ {H' : Hp}, (∀ b ∈ fp, H' b = none) → ∀ b ∈ fp, FpOk X pins H' b := fun hn b hb => ⟨hn b hb, (f2 b hb).2⟩
  refine codeAny_forLoop_any (fun n s' => ∃ i σ' H', Inv X pins σ' H' s' ∧ tn i s'.heap ∧ (∀ b ∈ fp, H' b = none) ∧ W i n σ' H') ?_ m0 ⟨0, σ, H2, I2, st2, fun b hb => (f2 b hb).1, w0⟩
  rintro n s3 ⟨i, σ3, H3, I3, st3, fr3, w3⟩
  rcases turn i n σ3 H3 w3 with ⟨stop, qn⟩ | ⟨go, N, hN, step⟩
  · refine wpAny_passesOwn hp (thn (T.done X rfl rfl rfl hc i pins s3 σ3 H3 X.xe I3 (stat fr3) st3 stop) fun r s4 ⟨hr, I4⟩ => ?_)
    subst hr
    exact wpAny_execs_nil ⟨σ3, H3, I4, qn⟩
  · refine wpAny_passesOwn hp (thn (T.item X rfl rfl rfl hc i pins s3 σ3 H3 X.xe I3 (stat fr3) st3 go) fun r s4 ⟨u, hr, h4⟩ => ?_)
    subst hr
    refine wpAny_passesOwn hp (thn h4 fun _ s5 ⟨x, H5, I5, r5, y5, st5, fr5⟩ => ?_)
    have I5' := I5.pinned (stat fr5) (T.obj _ _ st5)
    refine wpAny_passesOwn hp (thn (hg _ s5 σ3 H5 x u _ I5' r5 (step x H5 y5)) fun _ s6 ⟨σ6, H6, I6, q6⟩ => ?_)
    refine wpAny_passesOwn hp (thn (hb _ s6 σ6 H6 _ I6 q6) fun f s7 q7 => ?_)
    have again : ∀ {σ7 : St} {H7 : Hp}, Inv X (pins ++ pinsAt fp s5.heap) σ7 H7 s7 → N σ7 H7 → ∃ m, m < n ∧ ∃ i σ' H', Inv X pins σ' H' s7 ∧ tn i s7.heap ∧ (∀ b ∈ fp, H' b = none) ∧ W i m σ' H' := fun {σ7 H7} I7 n7 => by
      obtain ⟨m', hm, w7⟩ := hN σ7 H7 n7
      refine ⟨m', hm, i + 1, σ7, H7, I7.unpinned, T.keep _ _ _ st5 fun b hb o e => (I7.pin (b, o) (List.mem_append_right _ (List.mem_append_right _ (mem_pinsAt hb e)))).1, fun b hb => ?_, w7⟩
      obtain ⟨o, e, d⟩ := T.obj _ _ st5 b hb
      exact (I7.pin (b, o) (List.mem_append_right _ (List.mem_append_right _ (mem_pinsAt hb e)))).2.1
    cases f with
    | next => obtain ⟨σ7, H7, I7, n7⟩ := q7; exact again I7 n7
    | cont => obtain ⟨σ7, H7, I7, n7⟩ := q7; exact again I7 n7
    | brk => obtain ⟨σ7, H7, I7, q7⟩ := q7; exact ⟨σ7, H7, I7.unpinned, q7⟩
    | ret v => obtain ⟨x7, σ7, H7, I7, r7, q7⟩ := q7; exact ⟨x7, σ7, H7, I7.unpinned, r7, q7⟩
end

end L2

namespace L2
open PySem PySem.Spec PyProof.Rows

noncomputable abbrev R2 := V → V → Hp → VK → Prop
/-- a two-place operation on values: f is binaryOp op, inplaceOp op or compareOp op -/
noncomputable def OpR (X : Cx) (f : Value → Value → Sem Value) (r : R2) : Prop :=
  ∀ (pins : List (Addr × Obj)) (s : Shared) (σ : St) (H : Hp) (x y : V) (v u : Value) (Q : VK), Inv X pins σ H s → RelV x v → RelV y u → r x y H Q →
    wpAny (model X.prog X.w) X.A (f v u) (EP X pins σ Q) X.xe s
/-- a one-place operation -/
noncomputable def UnR (X : Cx) (f : Value → Sem Value) (r : V → Hp → VK → Prop) : Prop :=
  ∀ (pins : List (Addr × Obj)) (s : Shared) (σ : St) (H : Hp) (x : V) (v : Value) (Q : VK), Inv X pins σ H s → RelV x v → r x H Q →
    wpAny (model X.prog X.w) X.A (f v) (EP X pins σ Q) X.xe s
/-- a call of a value that is known (a builtin, a type) with values -/
noncomputable def CallR (X : Cx) (f : Value) (r : List V → Hp → VK → Prop) : Prop :=
  ∀ (pins : List (Addr × Obj)) (s : Shared) (σ : St) (H : Hp) (xs : List V) (us : List Value) (Q : VK), Inv X pins σ H s → Vals xs us → r xs H Q →
    wpAny (model X.prog X.w) X.A (call f us) (EP X pins σ Q) X.xe s
noncomputable abbrev tOp (r : R2) (ta tb : TE) : TE := fun σ H Q => ta σ H fun x H1 => tb σ H1 fun y H2 => r x y H2 Q
noncomputable abbrev tUn (r : V → Hp → VK → Prop) (ta : TE) : TE := fun σ H Q => ta σ H fun x H1 => r x H1 Q
/-- ints in, under C, and a value out -/
noncomputable def rI (C : Int → Int → Prop) (g : Int → Int → V) : R2 := fun x y H Q => ∃ i j, x = .int i ∧ y = .int j ∧ C i j ∧ Q (g i j) H
noncomputable def rI0 (g : Int → Int → V) : R2 := fun x y H Q => ∃ i j, x = .int i ∧ y = .int j ∧ Q (g i j) H
noncomputable def rU (g : Int → V) : V → Hp → VK → Prop := fun x H Q => ∃ i, x = .int i ∧ Q (g i) H

section
variable {X : Cx} {a b c : Expr} {ta tb tc : TE} {pos : Pos}

theorem binT (ha : PE X a ta) (hb : PE X b tb) {pins : List (Addr × Obj)} {s : Shared} {σ : St} {H : Hp} {R : V → V → Hp → Prop} (I : Inv X pins σ H s)
    (h : ta σ H fun x H1 => tb σ H1 fun y H2 => R x y H2) {Q : Value → Shared → Prop} {f : Value → Value → Sem Value}
    (hf : ∀ v u s2 x y H2, Inv X pins σ H2 s2 → RelV x v → RelV y u → R x y H2 → wpAny (model X.prog X.w) X.A (f v u) Q X.xe s2) :
    wpAny (model X.prog X.w) X.A (eval a X.env) (fun v s₁ => wpAny (model X.prog X.w) X.A (eval b X.env) (fun u s₂ => wpAny (model X.prog X.w) X.A (f v u) Q X.xe s₂) X.xe s₁) X.xe s := by
  refine thn (ha pins s σ H _ I h) fun v s1 ⟨x, H1, I1, r1, q1⟩ => ?_
  refine thn (hb pins s1 σ H1 _ I1 q1) fun u s2 ⟨y, H2, I2, r2, q2⟩ => ?_
  exact hf v u s2 x y H2 I2 r1 r2 q2

theorem pe_op {op : Operator} {r : R2} (ho : OpR X (binaryOp op) r) (ha : PE X a ta) (hb : PE X b tb) : PE X (.BinOp a op b pos) (tOp r ta tb) := by
  intro pins s σ H Q I h
  exact wpAny_BinOp (binT ha hb I h fun v u s2 x y H2 I2 rx ry q => ho pins s2 σ H2 x y v u Q I2 rx ry q)
theorem pe_un {op : UnaryOp} {r : V → Hp → VK → Prop} (ho : UnR X (unaryOp op) r) (ha : PE X a ta) : PE X (.UnaryOp op a pos) (tUn r ta) := by
  intro pins s σ H Q I h
  exact UnaryOp_ (thn (ha pins s σ H _ I h) fun v s1 ⟨x, H1, I1, r1, q1⟩ => ho pins s1 σ H1 x v Q I1 r1 q1)
/-! ### ints -/
theorem opI {f : Value → Value → Sem Value} {C : Int → Int → Prop} {g : Int → Int → Int}
    (rule : ∀ (i j : Int) (t u : Tok) (s : Shared) (Q : Value → Shared → Prop) (E : Value → Shared → Prop), C i j → Q (.int (g i j) s.toks) { s with toks := s.toks + 1 } → wpAny (model X.prog X.w) X.A (f (.int i t) (.int j u)) Q E s) :
    OpR X f (rI C fun i j => .int (g i j)) := by
  intro pins s σ H x y v u Q I rx ry h
  obtain ⟨i, j, rfl, rfl, hc, q⟩ := h
  obtain ⟨t, rfl⟩ := rx
  obtain ⟨t', rfl⟩ := ry
  exact rule i j t t' s _ _ hc ⟨.int (g i j), H, I.tok _, ⟨_, rfl⟩, q⟩
theorem opI0 {f : Value → Value → Sem Value} {g : Int → Int → Int}
    (rule : ∀ (i j : Int) (t u : Tok) (s : Shared) (Q : Value → Shared → Prop) (E : Value → Shared → Prop), Q (.int (g i j) s.toks) { s with toks := s.toks + 1 } → wpAny (model X.prog X.w) X.A (f (.int i t) (.int j u)) Q E s) :
    OpR X f (rI0 fun i j => .int (g i j)) := by
  intro pins s σ H x y v u Q I rx ry h
  obtain ⟨i, j, rfl, rfl, q⟩ := h
  obtain ⟨t, rfl⟩ := rx
  obtain ⟨t', rfl⟩ := ry
  exact rule i j t t' s _ _ ⟨.int (g i j), H, I.tok _, ⟨_, rfl⟩, q⟩
theorem opB0 {f : Value → Value → Sem Value} {g : Int → Int → Bool}
    (rule : ∀ (i j : Int) (t u : Tok) (s : Shared) (Q : Value → Shared → Prop) (E : Value → Shared → Prop), Q (.bool (g i j)) s → wpAny (model X.prog X.w) X.A (f (.int i t) (.int j u)) Q E s) :
    OpR X f (rI0 fun i j => .bl (g i j)) := by
  intro pins s σ H x y v u Q I rx ry h
  obtain ⟨i, j, rfl, rfl, q⟩ := h
  obtain ⟨t, rfl⟩ := rx
  obtain ⟨t', rfl⟩ := ry
  exact rule i j t t' s _ _ ⟨.bl (g i j), H, I, rfl, q⟩

noncomputable def CMul (i j : Int) : Prop := (-(2 ^ 64) < i ∧ i < 2 ^ 64) ∨ (-(2 ^ 64) < j ∧ j < 2 ^ 64)
theorem CMul.ok {i j : Int} (h : CMul i j) : IntMulOk i j := by
  rcases h with ⟨h1, h2⟩ | ⟨h1, h2⟩
  · exact .of_left (intBits_le_64 h1 h2)
  · exact .of_right (intBits_le_64 h1 h2)
theorem op_add : OpR X (binaryOp .Add) (rI0 fun i j => .int (i + j)) := opI0 fun _ _ _ _ _ _ _ q => add_int q
theorem op_sub : OpR X (binaryOp .Sub) (rI0 fun i j => .int (i - j)) := opI0 fun _ _ _ _ _ _ _ q => sub_int q
theorem op_modN : OpR X (binaryOp .Mod) (rI (fun _ j => j ≠ 0) fun i j => .int (i.fmod j)) := opI fun _ _ _ _ _ _ _ hc q => mod_int' hc q
theorem unI {f : Value → Sem Value} {g : Int → Int}
    (rule : ∀ (i : Int) (t : Tok) (s : Shared) (Q : Value → Shared → Prop) (E : Value → Shared → Prop), Q (.int (g i) s.toks) { s with toks := s.toks + 1 } → wpAny (model X.prog X.w) X.A (f (.int i t)) Q E s) :
    UnR X f (rU fun i => .int (g i)) := by
  intro pins s σ H x v Q I rx h
  obtain ⟨i, rfl, q⟩ := h
  obtain ⟨t, rfl⟩ := rx
  exact rule i t s _ _ ⟨.int (g i), H, I.tok _, ⟨_, rfl⟩, q⟩
theorem un_neg : UnR X (unaryOp .USub) (rU fun i => .int (-i)) := unI fun _ _ _ _ _ q => neg_int q
end

section
variable {X : Cx} {a b c : Expr} {ta tb tc : TE} {pos : Pos}
theorem op_lt : OpR X (compareOp .Lt) (rI0 fun i j => .bl (decide (i < j))) := opB0 fun _ _ _ _ _ _ _ q => lt_int q
theorem op_gt : OpR X (compareOp .Gt) (rI0 fun i j => .bl (decide (j < i))) := opB0 fun _ _ _ _ _ _ _ q => gt_int q
/-- two rules for one operation: by cases -/
theorem OpR.or {f : Value → Value → Sem Value} {r r' : R2} (h : OpR X f r) (h' : OpR X f r') : OpR X f (fun x y H Q => r x y H Q ∨ r' x y H Q) := by
  intro pins s σ H x y v u Q I rx ry q
  rcases q with q | q
  · exact h pins s σ H x y v u Q I rx ry q
  · exact h' pins s σ H x y v u Q I rx ry q

theorem nomark (b : Expr) {op : CmpOp} (h : op ≠ .In := by decide) (h2 : op ≠ .NotIn := by decide) : behindInMarks op b = false := by
  have e1 : (op == CmpOp.In) = false := by cases op <;> first | rfl | exact absurd rfl h
  have e2 : (op == CmpOp.NotIn) = false := by cases op <;> first | rfl | exact absurd rfl h2
  cases b <;> simp [behindInMarks, e1, e2]
/-- a comparison as a value; hm: nomark b, or (for in, not in) by with_unfolding_all rfl -/
theorem pe_cmpR {op : CmpOp} {r : R2} (ho : OpR X (compareOp op) r) (ha : PE X a ta) (hb : PE X b tb) (hm : behindInMarks op b = false) : PE X (.Compare a [op] [b] pos) (tOp r ta tb) := by
  intro pins s σ H Q I h
  exact wpAny_Compare1 (binT ha hb I h fun v u s2 x y H2 I2 rx ry q => ho pins s2 σ H2 x y v u Q I2 rx ry q) hm
/-- a reading of a value as a test -/
noncomputable abbrev tTest (t : TE) : TT := fun σ H Q => t σ H fun x H' => ∃ k, x = .bl k ∧ Q k H'
theorem pt_cmpR {op : CmpOp} {r : R2} (ho : OpR X (compareOp op) r) (ha : PE X a ta) (hb : PE X b tb) (hm : behindInMarks op b = false) : PT X (.Compare a [op] [b] pos) (tTest (tOp r ta tb)) := by
  intro pins s σ H Q I h
  refine wpAny_isTrue_Compare1 (thn (ha pins s σ H _ I h) fun v s1 ⟨x, H1, I1, r1, q1⟩ => thn (hb pins s1 σ H1 _ I1 q1) fun u s2 ⟨y, H2, I2, r2, q2⟩ =>
    thn (ho pins s2 σ H2 x y v u _ I2 r1 r2 q2) fun c s3 ⟨z, H3, I3, r3, k, e, q3⟩ => ?_) hm
  subst e
  cases r3
  exact wpAny_truthy_bool ⟨H3, I3, q3⟩
theorem line63 : (sizeLine : Nat) < 2 ^ 63 := by rw [sizeLine_eq]; decide
/-! ### scalar builtins, by CallR -/
theorem vals1 {x : V} {us : List Value} (r : Vals [x] us) : ∃ u, us = [u] ∧ RelV x u := by
  cases r with
  | cons r1 r2 => cases r2; exact ⟨_, rfl, r1⟩
theorem vals2 {x y : V} {us : List Value} (r : Vals [x, y] us) : ∃ u w', us = [u, w'] ∧ RelV x u ∧ RelV y w' := by
  cases r with
  | cons r1 r2 =>
    cases r2 with
    | cons r3 r4 => cases r4; exact ⟨_, _, rfl, r1, r3⟩
theorem call_abs : CallR X (.builtin "abs") (fun xs H Q => ∃ i, xs = [.int i] ∧ Q (.int (if i < 0 then -i else i)) H) := by
  intro pins s σ H xs us Q I r h
  obtain ⟨i, rfl, q⟩ := h
  obtain ⟨u, rfl, t, rfl⟩ := vals1 r
  exact call_abs_int fun u tk => ⟨.int (if i < 0 then -i else i), H, I.tok _, ⟨_, rfl⟩, q⟩
end
end L2

namespace L2
open PySem PySem.Spec PyProof.Rows

section
variable {prog : Program} {w : World} {A : Around} {E : Value → Shared → Prop} {s : Shared} {K : PySem.W.Frag} {x dx C f : Addr} {mA : Str → Option Value} {name : Str} {v : Value}

end

section
variable {P : Program} {w : World} {H H' : Hp} {h h' : Heap} {a C dx : Addr} {fs fs' : List (Str × V)}
end

section
variable {X : Cx} {pins : List (Addr × Obj)} {σ : St} {H : Hp} {s : Shared} {a C dx : Addr} {fs : List (Str × V)} {f : Str} {v : V} {A : Around} {E : Value → Shared → Prop}

end

section
variable {X : Cx} {o e value : Expr} {f : Str} {pos pos' tpos : Pos} {ta tv : TE}
end

/-! ### isinstance -/
section
variable {X : Cx} {pins : List (Addr × Obj)} {σ : St} {H : Hp} {s : Shared} {A : Around} {E : Value → Shared → Prop} {Q : Value → Shared → Prop} {c : Value} {b : Bool}
end
end L2

namespace L2
open PySem PySem.Spec PyProof.Rows

/-! ### room -/
structure Room (k : Nat) (A : Around) : Prop where
  hd : A.handled = none
  dp : A.depth + 3 * k + 5 < recursionLimit
  un : A.units + 16 * k + 200 < cLine
theorem Room.mono {j k : Nat} {A : Around} (r : Room k A) (h : j ≤ k) : Room j A := ⟨r.hd, by have := r.dp; omega, by have := r.un; omega⟩
theorem Room.deeper {k : Nat} {A : Around} (r : Room (k + 1) A) (env : Env) : Room k (A.deeper env) :=
  ⟨r.hd, by have := r.dp; show A.depth + 1 + 3 * k + 5 < _; omega, by have := r.un; show A.units + 3 + 16 * k + 200 < _; omega⟩
theorem Room.depth {k : Nat} {A : Around} (r : Room k A) : A.depth < recursionLimit := by have := r.dp; omega
theorem Room.units {k : Nat} {A : Around} (r : Room k A) : A.units + 64 < cLine := by have := r.un; omega
/-! ### argument lists and displays -/
noncomputable abbrev tNil : TA := fun _ H Q => Q [] H
noncomputable abbrev tCons (ta : TE) (tr : TA) : TA := fun σ H Q => ta σ H fun x H1 => tr σ H1 fun xs H2 => Q (x :: xs) H2
section
variable {X : Cx} {e : Expr} {es : List Expr} {te : TE} {t : TA} {pos : Pos}
theorem pa_nil : PA X [] tNil := fun _ _ _ _ H Q I h => Calls.spliced_nil ⟨[], H, I, .nil, h⟩
theorem pa_cons (ha : PE X e te) (hr : PA X es t) (hs : starEach (e :: es) X.env = (false, eval e X.env) :: starEach es X.env := by rfl) : PA X (e :: es) (tCons te t) := by
  intro pos pins s σ H Q I h
  rw [hs]
  show wpAny _ _ (spliced ((false, eval e X.env) :: backTo pos (starEach es X.env))) _ _ s
  refine Calls.spliced_cons (thn (ha pins s σ H _ I h) fun u s1 ⟨x, H1, I1, r1, q1⟩ => ?_)
  exact thn (hr pos pins s1 σ H1 _ I1 q1) fun us s2 ⟨xs, H2, I2, r2, q2⟩ => ⟨x :: xs, H2, I2, .cons r1 r2, q2⟩

/-- a tuple, a list of written items -/
noncomputable abbrev tTup (t : TA) : TE := fun σ H Q => t σ H fun xs H1 => xs.length ≤ sizeLine ∧ ∀ p, H1 p = none → Q (.ref p) (upd H1 p (.tup xs))
noncomputable abbrev tLst (t : TA) : TE := fun σ H Q => t σ H fun xs H1 => xs.length ≤ sizeLine ∧ ∀ p, H1 p = none → Q (.ref p) (upd H1 p (.lst xs))
theorem pe_tup {x1} (h : PA X es t) : PE X (.Tuple es x1 pos) (tTup t) := by
  intro pins s σ H Q I hq
  refine wpAny_Tuple_spliced (thn (h pos pins s σ H _ I hq) fun us s1 ⟨xs, H1, I1, r, z, q⟩ => ⟨by rw [← r.length]; exact z, ?_⟩)
  have hf : H1 s1.heap.objs.size = none := I1.hok.fresh (Nat.le_refl _)
  refine ⟨.ref s1.heap.objs.size, upd H1 s1.heap.objs.size (.tup xs), I1.laid (t' := s1.toks) (fun b u e => Heap.get?_push_of_some _ e) (Nat.le_refl _) ?_, rfl, q _ hf⟩
  exact ⟨z, us, r, ⟨_, Heap.get?_push_size _ rfl, rfl, _, rfl⟩⟩
theorem pe_lst (h : PA X es t) : PE X (.List es pos) (tLst t) := by
  intro pins s σ H Q I hq
  refine wpAny_List_spliced (thn (h pos pins s σ H _ I hq) fun us s1 ⟨xs, H1, I1, r, z, q⟩ => ⟨by rw [← r.length]; exact z, ?_⟩)
  have hf : H1 s1.heap.objs.size = none := I1.hok.fresh (Nat.le_refl _)
  refine ⟨.ref s1.heap.objs.size, upd H1 s1.heap.objs.size (.lst xs), I1.laid (t' := s1.toks) (fun b u e => Heap.get?_push_of_some _ e) (Nat.le_refl _) ?_, rfl, q _ hf⟩
  exact ⟨z, us, 0, r, Heap.get?_push_size _ rfl⟩
end

/-! ### what a def promises -/
/-- a def's promise: the bound arguments in the parameters' order, the heap, the wanted end, the wanted exception -/
noncomputable abbrev Sp := List V → Hp → VK → XK → Prop
/-- how an exception lies behind a call (file 08 gives it): the callers' frames, abstract heap and state ahead of the call, the wish, the exception, the state -/
noncomputable abbrev CXT := List Env → Hp → Shared → XK → Value → Shared → Prop

/-- the state at a call -/
structure Env0 (P : Program) (w : World) (K : PySem.W.Frag) (mg : Str → Option Value) (base : Heap) (A : Around) (outer : List Env) (s : Shared) (H : Hp) : Prop where
  frames : A.frames = some outer
  mod : Mod K mg base
  bs : ∀ b o, base.get? b = some o → s.heap.get? b = some o ∧ H b = none
  bsz : base.objs.size ≤ s.heap.objs.size
  funs : s.heap.FunFrames base outer
  frf : ∀ b ∈ frs outer, H b = none
  hok : HOk P w H s.heap
  bare : AllBare s.gens
/-- a call's end -/
noncomputable def CE (outer : List Env) (P : Program) (w : World) (H : Hp) (s : Shared) (Q : VK) (u : Value) (s' : Shared) : Prop :=
  ∃ v H', s'.os = s.os ∧ AllBare s'.gens ∧ Un (frs outer) [] H H' s.heap s'.heap ∧ HOk P w H' s'.heap ∧ RelV v u ∧ Q v H'
noncomputable def CR (CX : CXT) (outer : List Env) (P : Program) (w : World) (H : Hp) (s : Shared) (Q : VK) (E : XK) (r : Result) (s' : Shared) : Prop :=
  match r with
  | .ok (.ret u) => CE outer P w H s Q u s'
  | .ok _ => False
  | .error e => CX outer H s E e s'
structure FnOk (P : Program) (w : World) (K : PySem.W.Frag) (mg : Str → Option Value) (base : Heap) (CX : CXT) (k : Nat) (f : Addr) (fd : FuncData) (ps : List Str) (sp : Sp) : Prop where
  len : ∀ vs H Q E, sp vs H Q E → vs.length = ps.length
  run : ∀ (A : Around) (outer : List Env) (s : Shared) (H : Hp) (args : Args) (us : List Value) (vs : List V) (Q : VK) (E : XK), Room k A → Env0 P w K mg base A outer s H → BindsTo s fd args (ps.zip us) → Vals vs us → sp vs H Q E →
    codeAny (model P w) A (.call (.ref f) args) (CR CX outer P w H s Q E) s
theorem FnOk.mono {P : Program} {w : World} {K : PySem.W.Frag} {mg : Str → Option Value} {base : Heap} {CX : CXT} {j k : Nat} {f : Addr} {fd : FuncData} {ps : List Str} {sp : Sp} (F : FnOk P w K mg base CX j f fd ps sp) (h : j ≤ k) :
    FnOk P w K mg base CX k f fd ps sp := ⟨F.len, fun A outer s H args us vs Q E hr => F.run A outer s H args us vs Q E (hr.mono h)⟩
/-- a weaker promise -/
theorem FnOk.imp {P : Program} {w : World} {K : PySem.W.Frag} {mg : Str → Option Value} {base : Heap} {CX : CXT} {k : Nat} {f : Addr} {fd : FuncData} {ps : List Str} {sp sp' : Sp} (F : FnOk P w K mg base CX k f fd ps sp)
    (h : ∀ vs H Q E, sp' vs H Q E → sp vs H Q E) : FnOk P w K mg base CX k f fd ps sp' :=
  ⟨fun vs H Q E q => F.len vs H Q E (h _ _ _ _ q), fun A outer s H args us vs Q E hr he hb hv hs => F.run A outer s H args us vs Q E hr he hb hv (h _ _ _ _ hs)⟩

theorem Env0.in1 {P : Program} {w : World} {K : PySem.W.Frag} {mg : Str → Option Value} {base : Heap} {A : Around} {outer : List Env} {s : Shared} {H : Hp} (e : Env0 P w K mg base A outer s H) :
    Env0 P w K mg base A.in1 outer s H := ⟨e.frames, e.mod, e.bs, e.bsz, e.funs, e.frf, e.hok, e.bare⟩

section
variable {X : Cx} {pins : List (Addr × Obj)} {σ : St} {H : Hp} {s s' : Shared}
/-- from a body: what a callee wants -/
theorem Inv.env0 (I : Inv X pins σ H s) : Env0 X.prog X.w X.K X.mg X.base X.A X.stack s H :=
  ⟨I.ok.frames, I.ok.mod, I.bs, Nat.le_trans I.ok.bsz I.sz, I.stack, I.stkFree, I.hok, I.bare⟩
/-- behind a call -/
theorem Inv.after {Q : VK} {u : Value} (I : Inv X pins σ H s) (h : CE X.stack X.prog X.w H s Q u s') : EP X pins σ Q u s' := by
  obtain ⟨v, H', os, bare, un, hok, r, q⟩ := h
  obtain ⟨hh, g, d, t, os'⟩ := s'
  obtain rfl : os' = s.os := os
  exact ⟨v, H', I.call (h' := hh) (g' := g) (d' := d) (t' := t) (ch := []) un hok bare (fun b z => absurd z (by simp)), r, q⟩
end

/-! ### calls -/
/-- f(..): the written arguments, then the defaults dvs; E: what is wanted of an exception -/
noncomputable abbrev tCall (sp : Sp) (dvs : List V) (E : XK) (t : TA) : TE := fun σ H Q => t σ H fun vs H1 => sp (vs ++ dvs) H1 Q E
/-- how the parameters are bound: us the positional arguments, kw the keywords' values by name, ds the defaults that fill up -/
noncomputable def Binds (K : PySem.W.Frag) (fd : FuncData) (ps : List Str) (ds : List Value) : Prop :=
  ∀ (s : Shared) (us : List Value), K.In s.heap → (us ++ ds).length = ps.length → BindsTo s fd ⟨us, []⟩ (ps.zip (us ++ ds))
/-- every parameter is given -/
theorem Binds.all {K : PySem.W.Frag} {fd : FuncData} {ps : List Str} (h : ∀ us : List Value, us.length = ps.length → bindArgs fd ⟨us, []⟩ = pure (ps.zip us)) : Binds K fd ps [] := fun s us _ hl => by
  rw [List.append_nil] at hl ⊢
  exact .of_eq (h us hl)

/-- an exception of a callee reaches what this body wants of exceptions -/
noncomputable def Passes (CX : CXT) (X : Cx) (E : XK) : Prop := ∀ (pins : List (Addr × Obj)) (σ : St) (H : Hp) (s : Shared) (e : Value) (s' : Shared), Inv X pins σ H s → CX X.stack H s E e s' → X.xe e s'

section
variable {X : Cx} {CX : CXT} {k : Nat} {f C : Addr} {fd : FuncData} {ps : List Str} {sp : Sp} {dvs : List V} {ds : List Value} {E : XK} {x m : Str} {p pos apos : Pos} {e o : Expr} {es : List Expr} {ta : TE} {t : TA}

/-- the callee runs -/
theorem run_fn {pins : List (Addr × Obj)} {σ : St} {H : Hp} {s : Shared} {Q : VK} {us : List Value} {vs : List V} (F : FnOk X.prog X.w X.K X.mg X.base CX k f fd ps sp) (hr : Room k X.A) (hb : Binds X.K fd ps ds) (hd : Vals dvs ds) (hx : Passes CX X E)
    (I : Inv X pins σ H s) (r : Vals vs us) (h : sp (vs ++ dvs) H Q E) : wpAny (model X.prog X.w) X.A (call (.ref f) us) (EP X pins σ Q) X.xe s := by
  have r2 : Vals (vs ++ dvs) (us ++ ds) := r.append hd
  have hl : (us ++ ds).length = ps.length := by rw [← r2.length]; exact F.len _ _ _ _ h
  refine wpAny_call (codeAny_mono (F.run X.A X.stack s H ⟨us, []⟩ (us ++ ds) (vs ++ dvs) Q E hr I.env0 (hb s us I.kIn hl) r2 h) fun r s' hq => ?_)
  cases r with
  | error e => exact hx pins σ H s e s' I hq
  | ok fl =>
    cases fl with
    | ret u => exact I.after hq
    | next => exact False.elim hq
    | brk => exact False.elim hq
    | cont => exact False.elim hq

theorem pe_call (F : FnOk X.prog X.w X.K X.mg X.base CX k f fd ps sp) (hr : Room k X.A) (hg : Gl X x) (hm : X.mg x = some (.ref f)) (hk : PySem.W.keepIn X.K (.ref f) = true) (hb : Binds X.K fd ps ds) (hd : Vals dvs ds) (hx : Passes CX X E)
    (ha : PA X (e :: es) t) (hdb : (x == ("__debug__" : Str)) = false := by decide) (he : starEach (e :: es) X.env = (false, eval e X.env) :: starEach es X.env := by rfl) (hpl : (backTo pos (starEach es X.env)).any (·.1) = false := by rfl) :
    PE X (.Call (.Name x p) (e :: es) [] pos) (tCall sp dvs E t) := by
  intro pins s σ H Q I h
  refine wpAny_Call_Name_kw (ld_glob I hg hm ?_ hdb)
  refine PySem.W.callWith_K (h₀ := X.base) I.ok.mod.kin hk (thn (ha pos pins s σ H _ I h) fun us s1 ⟨vs, H1, I1, r, q⟩ => ⟨I1.kIn, ?_⟩) he hpl
  exact run_fn F hr hb hd hx I1 r q
end

section
variable {X : Cx} {CX : CXT} {k : Nat} {f C : Addr} {fd : FuncData} {ps ks : List Str} {sp : Sp} {E : XK} {x m : Str} {p pos apos kpos : Pos} {e o : Expr} {es : List Expr} {kws : List Keyword} {te ta : TE} {t tk : TA} {nm : Option Str}
variable {g : List Value → List Value → List Value} {gV : List V → List V → List V}
end

/-! ### a def's body keeps its promise -/
/-- names: the parameters first -/
structure FnScope (N P : List Str) (sc : Scope) : Prop where
  kind : sc.kind = .function
  co : sc.isCoroutine = false
  gen : sc.isGenerator = false
  nd : N.Nodup
  pre : N.take P.length = P
  par : ∀ x ∈ P, sc.names.lookup x = some .local ∨ sc.names.lookup x = some .cell
  nofree : ∀ y ∈ sc.names, y.2 ≠ .free

theorem bindL_out {kindOf : Str → Option NameKind} {x : Str} : ∀ {binds : List (Str × Value)} {m : Str → Option Value}, (∀ v, (x, v) ∉ binds) → bindL kindOf binds m x = m x
  | [], _, _ => rfl
  | (n, v) :: r, m, h => by
    unfold bindL
    rw [bindL_out fun w hw => h w (List.mem_cons_of_mem _ hw)]
    split
    · have : x ≠ n := by rintro rfl; exact h v List.mem_cons_self
      simp [this]
    · rfl
theorem bindC_out {kindOf : Str → Option NameKind} {x : Str} : ∀ {binds : List (Str × Value)} {m : Str → Option Value}, (∀ v, (x, v) ∉ binds) → bindC kindOf binds m x = m x
  | [], _, _ => rfl
  | (n, v) :: r, m, h => by
    unfold bindC
    rw [bindC_out fun w hw => h w (List.mem_cons_of_mem _ hw)]
    split
    · rfl
    · have : x ≠ n := by rintro rfl; exact h v List.mem_cons_self
      simp [this]
theorem bindL_get {kindOf : Str → Option NameKind} {x : Str} {v : Value} : ∀ {P : List Str} {vs : List Value} {i : Nat} {m : Str → Option Value}, P.Nodup → P[i]? = some x → vs[i]? = some v → kindOf x = some .local →
    bindL kindOf (P.zip vs) m x = some v
  | [], _, _, _, _, h, _, _ => by simp at h
  | _ :: _, [], _, _, _, _, h, _ => by simp at h
  | p :: P, w :: vs, 0, m, nd, h1, h2, hk => by
    simp at h1 h2; subst h1; subst h2
    show bindL kindOf ((p, w) :: P.zip vs) m p = _
    unfold bindL
    rw [bindL_out fun v hv => (List.nodup_cons.mp nd).1 (List.of_mem_zip hv).1, if_pos hk]
    simp
  | p :: P, w :: vs, i + 1, m, nd, h1, h2, hk => by
    show bindL kindOf ((p, w) :: P.zip vs) m x = _
    unfold bindL
    exact bindL_get (i := i) (List.nodup_cons.mp nd).2 (by simpa using h1) (by simpa using h2) hk
theorem bindC_get {kindOf : Str → Option NameKind} {x : Str} {v : Value} : ∀ {P : List Str} {vs : List Value} {i : Nat} {m : Str → Option Value}, P.Nodup → P[i]? = some x → vs[i]? = some v → kindOf x ≠ some .local →
    bindC kindOf (P.zip vs) m x = some v
  | [], _, _, _, _, h, _, _ => by simp at h
  | _ :: _, [], _, _, _, _, h, _ => by simp at h
  | p :: P, w :: vs, 0, m, nd, h1, h2, hk => by
    simp at h1 h2; subst h1; subst h2
    show bindC kindOf ((p, w) :: P.zip vs) m p = _
    unfold bindC
    rw [bindC_out fun v hv => (List.nodup_cons.mp nd).1 (List.of_mem_zip hv).1, if_neg hk]
    simp
  | p :: P, w :: vs, i + 1, m, nd, h1, h2, hk => by
    show bindC kindOf ((p, w) :: P.zip vs) m x = _
    unfold bindC
    exact bindC_get (i := i) (List.nodup_cons.mp nd).2 (by simpa using h1) (by simpa using h2) hk

/-- the names' values at the entry -/
noncomputable def start (N : List Str) (vs : List V) : St := vs.map some ++ List.replicate (N.length - vs.length) none

/-- the context of a def's body, at its entry; an exception leaves the frame, then lies as CX says -/
noncomputable def cxOf (CX : CXT) (P : Program) (w : World) (K : PySem.W.Frag) (mg : Str → Option Value) (base : Heap) (N : List Str) (qual : Str) (scope : Scope) (f : Addr) (cd : Value) (A : Around) (outer : List Env) (s : Shared) (H : Hp) (E : XK) : Cx where
  prog := P
  w := w
  K := K
  mg := mg
  base := base
  A := A.deeper (envOfC qual scope s.heap.objs.size f cd)
  N := N
  s₀ := s
  H₀ := H
  env := envOfC qual scope s.heap.objs.size f cd
  outer := outer
  stack := envOfC qual scope s.heap.objs.size f cd :: outer
  ex := []
  calm := true
  fn := fun _ => true
  pn := []
  xe := fun e s' => wpAny (model P w) (A.deeper (envOfC qual scope s.heap.objs.size f cd)) (leaving (envOfC qual scope s.heap.objs.size f cd) e) (fun _ s'' => CX outer H s E e s'') (fun e' s'' => CX outer H s E e' s'') s'

theorem cell_has {sc : Scope} {n : Nat} {x : Str} (h : sc.names.lookup x = some .cell) : ∃ c, (cellsFrom n sc.names []).lookup x = some c := by
  have q := PySem.W.cellsFrom_some sc.names n [] (.inl h)
  exact Option.isSome_iff_exists.mp q

theorem inv_start {CX : CXT} {P : Program} {w : World} {K : PySem.W.Frag} {mg : Str → Option Value} {base : Heap} {N ps : List Str} {qual : Str} {scope : Scope} {f : Addr} {cd : Value} {A : Around} {outer : List Env} {s s1 : Shared} {H : Hp} {E : XK} {us : List Value} {vs : List V}
    (S : FnScope N ps scope) (hd : A.handled = none) (e0 : Env0 P w K mg base A outer s H) (hl : vs.length = ps.length) (r : Vals vs us)
    (x : InCallC s s.heap.objs.size (bindL (envOfC qual scope s.heap.objs.size f cd).kindOf (ps.zip us) fun _ => none) (cellsFrom (s.heap.objs.size + 1) scope.names []) (bindC (envOfC qual scope s.heap.objs.size f cd).kindOf (ps.zip us) fun _ => none) s1) :
    Inv (cxOf CX P w K mg base N qual scope f cd A outer s H E) [] (start N vs) H s1 := by
  have hpl : ps.length ≤ N.length := by have := congrArg List.length S.pre; rw [List.length_take] at this; omega
  obtain ⟨h1, tk, rfl, hk⟩ := x.done
  have noA : ∀ b : Addr, b ∉ (cxOf CX P w K mg base N qual scope f cd A outer s H E).ex := fun b z => absurd (show b ∈ ([] : List Addr) from z) (by simp)
  refine ⟨⟨e0.mod, S.kind, rfl, rfl, Nat.le_refl _, fun y z c h1 h2 => ?_, fun y hy => ?_, fun y c _ h => ?_, fun _ => hd, Around.frames_deeper e0.frames, .inr ⟨rfl, rfl⟩, fun b z => absurd z (noA b), e0.bs, e0.bsz, fun b _ _ => noA b, fun b z => absurd z (noA b), e0.funs, e0.frf⟩,
    rfl, e0.bare, Un.kept hk, ⟨_, x.toInCall.ns, fun i y v h1 h2 h3 => ?_⟩, fun y c h => ⟨_, x.cell y c h⟩, e0.hok.fresh (Nat.le_refl _), fun y c h => ?_, fun p hp => absurd (show p ∈ ([] : List (Addr × Obj)) from hp) (by simp), e0.hok.kept hk, ?_⟩
  · exact name_of_addr x.apart (PySem.mem_of_lookup h1) (PySem.mem_of_lookup h2)
  · have hy : scope.names.lookup y = some .cell ∨ scope.names.lookup y = some .free := hy
    rcases hy with hy | hy
    · exact cell_has hy
    · exact absurd rfl (S.nofree _ (PySem.mem_of_lookup hy))
  · exact Nat.le_of_lt (x.above y c (PySem.mem_of_lookup h))
  · have hi : i < vs.length := by
      unfold start at h2
      by_cases hi : i < vs.length
      · exact hi
      · rw [List.getElem?_append_right (by simpa using hi)] at h2
        rw [List.getElem?_replicate] at h2
        split at h2 <;> cases h2
    have ha : vs[i]? = some v := by
      unfold start at h2
      rw [List.getElem?_append_left (by simpa using hi), List.getElem?_map] at h2
      cases e : vs[i]? with
      | none => rw [e] at h2; cases h2
      | some a => rw [e] at h2; cases h2; rfl
    obtain ⟨u, hu, rv⟩ := r.get ha
    have hp : ps[i]? = some y := by
      rw [← S.pre, List.getElem?_take_of_lt (by omega)]; exact h1
    have ndP : ps.Nodup := by rw [← S.pre]; exact S.nd.sublist (List.take_sublist _ _)
    refine ⟨u, rv, ?_⟩
    rcases S.par y (List.mem_of_getElem? hp) with k | k
    · exact .inl ⟨k, bindL_get ndP hp hu k⟩
    · obtain ⟨c, e⟩ := cell_has (n := s.heap.objs.size + 1) k
      refine .inr ⟨.inl k, c, e, ?_⟩
      have q := x.cell y c e
      rw [bindC_get ndP hp hu (by show scope.names.lookup y ≠ _; rw [k]; decide)] at q
      exact q
  · exact e0.hok.fresh (Nat.le_of_lt (x.above y c (PySem.mem_of_lookup h)))
  · unfold start
    show _ = N.length
    rw [List.length_append, List.length_map, List.length_replicate]
    omega

/-- THE RULE: a def (or a method) of the text, by its body. The body's reading t is chosen for each entry; it is run at the parameters' values -/
theorem fn_of {CX : CXT} {P : Program} {w : World} {K : PySem.W.Frag} {mg : Str → Option Value} {base : Heap} {k : Nat} {f : Addr} {name qual : Str} {params : Arguments} {body : List Stmt} {scope : Scope} {dV kV doc pm cdv ct oc : Value} {an od : Option Addr}
    {osl : Array (Option Value)} {N ps : List Str} {sp : Sp} (lk : K.lookup f = some ⟨oc, od, .func (PySem.W.fnOf name qual params body scope dV kV doc pm an cdv ct), osl⟩) (hcd : PySem.W.codeIn K cdv qual = true) (S : FnScope N ps scope)
    (len : ∀ vs H Q E, sp vs H Q E → vs.length = ps.length)
    (hbody : ∀ (A : Around) (outer : List Env) (s : Shared) (H : Hp) (vs : List V) (Q : VK) (E : XK), Room k (A.deeper (envOfC qual scope s.heap.objs.size f cdv)) → sp vs H Q E →
      ∃ t, PSs (cxOf CX P w K mg base N qual scope f cdv A outer s H E) body t ∧ t { nx := fun _ H' => Q .non H', rt := Q } (start N vs) H) :
    FnOk P w K mg base CX (k + 1) f (PySem.W.fnOf name qual params body scope dV kV doc pm an cdv ct) ps sp := by
  refine ⟨len, fun A outer s H args us vs Q E hr e0 hb r hsp => ?_⟩
  have hl := len _ _ _ _ hsp
  have KX : K.In s.heap := e0.mod.kin.keeps fun b o e => (e0.bs b o e).1
  have lim : s.heap.NoLimit := e0.mod.nolimit.keeps fun b o e => (e0.bs b o e).1
  have hkind : ∀ y ∈ ps.zip us, scope.names.lookup y.1 = some .local ∨ (scope.names.lookup y.1 = some .cell ∧ ((cellsFrom (s.heap.objs.size + 1) scope.names []).lookup y.1).isSome = true) := fun ⟨n, v⟩ hy => by
    rcases S.par n (List.of_mem_zip hy).1 with q | q
    · exact .inl q
    · exact .inr ⟨q, PySem.W.cellsFrom_some _ _ _ (.inl q)⟩
  refine codeAny_call_function hr.depth (KX _ _ lk) rfl S.co S.gen rfl (PySem.W.codeRec_of KX hcd) (hb _ _ _ _ ?_)
  refine wpAny_newFunctionEnv_cells S.kind hkind fun env he s1 x => ?_
  subst he
  refine ⟨lim.keeps x.toInCall.keep, codeAny_func ?_⟩
  obtain ⟨t, ht, hq⟩ := hbody A outer s H vs Q E (hr.deeper _) hsp
  have I : Inv (cxOf CX P w K mg base N qual scope f cdv A outer s H E) [] (start N vs) H s1 := inv_start S hr.hd e0 hl r x
  refine wpAny_mono (ht [] s1 (start N vs) H _ I hq) (fun fl s' hs => ?_) fun e s' hs => hs
  have fin : ∀ {σ' : St} {H' : Hp} {v : V} {u : Value}, Inv (cxOf CX P w K mg base N qual scope f cdv A outer s H E) [] σ' H' s' → RelV v u → Q v H' → CE outer P w H s Q u s' :=
    fun {σ' H' v u} J rv q => ⟨v, H', J.os, J.bare, J.base, J.hok, rv, q⟩
  cases fl with
  | ret u =>
    obtain ⟨v, σ', H', J, rv, q⟩ := hs
    exact fin J rv q
  | next =>
    obtain ⟨σ', H', J, q⟩ := hs
    exact fin (v := V.non) (u := Value.none) J rfl q
  | brk =>
    obtain ⟨_, _, _, q⟩ := hs
    exact False.elim q
  | cont =>
    obtain ⟨_, _, _, q⟩ := hs
    exact False.elim q
end L2

namespace L2
open PySem PySem.Spec PyProof.Rows
section
variable {X : Cx} {x : Str} {p pos : Pos} {e : Expr} {es : List Expr} {t : TA} {id T : String} {r : List V → Hp → VK → Prop}

noncomputable abbrev tCB (r : List V → Hp → VK → Prop) (t : TA) : TE := fun σ H Q => t σ H fun vs H1 => r vs H1 Q
/-- f(e, ..), f a built-in function -/
theorem pe_callB (hc : CallR X (.builtin id) r) (hg : Gl X x) (hm : X.mg x = none) (hv : bootBuiltins x = some (.builtin id)) (ha : PA X (e :: es) t) (hn : x ≠ "__name__" := by decide) (hdb : (x == ("__debug__" : Str)) = false := by decide)
    (he : starEach (e :: es) X.env = (false, eval e X.env) :: starEach es X.env := by rfl) (hpl : (backTo pos (starEach es X.env)).any (·.1) = false := by rfl) : PE X (.Call (.Name x p) (e :: es) [] pos) (tCB r t) := by
  intro pins s σ H Q I h
  refine wpAny_Call_Name_kw (ld_blt I hg hm hv ?_ hn hdb)
  exact PyProof.Rows.callWith_builtin1 (thn (ha pos pins s σ H _ I h) fun us s1 ⟨vs, H1, I1, r1, q1⟩ => hc pins s1 σ H1 vs us Q I1 r1 q1) he hpl
/-- T(e, ..), T a built-in type -/
theorem pe_callTy (hc : CallR X (.type T) r) (hg : Gl X x) (hm : X.mg x = none) (hv : bootBuiltins x = some (.type T)) (ha : PA X (e :: es) t) (hn : x ≠ "__name__" := by decide) (hdb : (x == ("__debug__" : Str)) = false := by decide)
    (he : starEach (e :: es) X.env = (false, eval e X.env) :: starEach es X.env := by rfl) (hpl : (backTo pos (starEach es X.env)).any (·.1) = false := by rfl) : PE X (.Call (.Name x p) (e :: es) [] pos) (tCB r t) := by
  intro pins s σ H Q I h
  refine wpAny_Call_Name_kw (ld_blt I hg hm hv ?_ hn hdb)
  exact PyProof.Rows.callWith_type1 (thn (ha pos pins s σ H _ I h) fun us s1 ⟨vs, H1, I1, r1, q1⟩ => hc pins s1 σ H1 vs us Q I1 r1 q1) he hpl
end
end L2

namespace HT
open PySem PyProof.Rows

section
open PySem.SeqAt
open PySem.AutoSeq1 (wpAny_loadPart')
open PySem.MeetsSeq PySem.MeetsSeq2 PySem.MeetsSeq3

end

section
variable {prog : Program} {w : World} {A : Around} {E : Value → Shared → Prop} {s : Shared}

/-- t + u, t not empty -/
theorem cat_tup {t b : Addr} {vs ws : List Value} {Q : Value → Shared → Prop} (ht : IsTup s.heap t vs.toArray) (hb : IsTup s.heap b ws.toArray) (hv : vs ≠ [])
    (h1 : ws = [] → Q (.ref t) s) (h2 : ws ≠ [] → Q (.ref s.heap.objs.size) { s with heap := s.heap.push { cls := .type "tuple", data := .seq (vs ++ ws).toArray } })
    (hsz : vs.length + ws.length ≤ sizeLine) : wpAny (model prog w) A (binaryOp .Add (.ref t) (.ref b)) Q E s := by
  obtain ⟨⟨cls, dd, data, sl⟩, ho, hc, n, hd⟩ := id ht
  obtain ⟨⟨cls2, dd2, data2, sl2⟩, ho2, hc2, n2, hd2⟩ := id hb
  simp only at hc hd hc2 hd2
  subst hc hd hc2 hd2
  have e : vs.toArray ++ ws.toArray = (vs ++ ws).toArray := by simp
  by_cases hw : ws = []
  · exact concat_meets ⟨_, ho, rfl⟩ ⟨_, ho2, rfl⟩ noFill_tuple_add seq_tuple_add PySem.F.slot_tuple_add PySem.F.entry_tuple_add (PySem.F.args_tuple_add_2 _ _)
      (tuple_addW1 t b vs.toArray ws.toArray n n2 dd dd2 sl sl2 (by simpa using hv) (by simp [hw])) ⟨ho, ho2, h1 hw⟩
  · refine concat_meets ⟨_, ho, rfl⟩ ⟨_, ho2, rfl⟩ noFill_tuple_add seq_tuple_add PySem.F.slot_tuple_add PySem.F.entry_tuple_add (PySem.F.args_tuple_add_2 _ _)
      (tuple_addW2 t b vs.toArray ws.toArray n n2 dd dd2 sl sl2 (by simpa using hv) (by simpa using hw) (by rw [List.size_toArray, List.size_toArray]; exact hsz)) ⟨ho, ho2, ?_⟩
    rw [e]
    exact h2 hw

/-! ### t[a:b], not the whole -/
/-- a slice's bound as a place among n (d where it is left out) -/
noncomputable def sIx (n d : Nat) : Option Int → Nat
  | none => d
  | some v => if v < 0 then (v + (n : Int)).toNat else min v.toNat n
end
end HT

namespace L2
open PySem PySem.Spec PyProof.Rows

/-! ### the parts of a slice -/
noncomputable abbrev TO := St → Hp → (Option Int → Hp → Prop) → Prop
/-- a slice's part (left out, or an int) -/
noncomputable def PO (X : Cx) (e : Option Expr) (t : TO) : Prop :=
  ∀ (pins : List (Addr × Obj)) (s : Shared) (σ : St) (H : Hp) (Q : Option Int → Hp → Prop), Inv X pins σ H s → t σ H Q →
    wpAny (model X.prog X.w) X.A (evalPart e X.env) (fun u s' => ∃ o H', Inv X pins σ H' s' ∧ IsPart u o ∧ Q o H') X.xe s
noncomputable abbrev tPart (t : TE) : TO := fun σ H Q => t σ H fun x H1 => ∃ i, x = .int i ∧ Q (some i) H1

section
variable {X : Cx} {e : Expr} {te : TE} {lo hi : Option Expr} {tl th : TO} {pos p2 : Pos}

theorem po_some (h : PE X e te) : PO X (some e) (tPart te) := by
  intro pins s σ H Q I hw
  rw [evalPart_some]
  refine thn (h pins s σ H _ I hw) fun u s1 ⟨x, H1, I1, r1, q1⟩ => ?_
  obtain ⟨i, rfl, q⟩ := q1
  obtain ⟨t, rfl⟩ := r1
  exact ⟨some i, H1, I1, .int i t, q⟩

/-- what a slice of a value is, by values: the slice object stands at sl -/
noncomputable def SlR (X : Cx) (r : V → Option Int → Option Int → Hp → VK → Prop) : Prop :=
  ∀ (pins : List (Addr × Obj)) (s : Shared) (σ : St) (H : Hp) (x : V) (v vl vu : Value) (lo hi : Option Int) (sl : Addr) (Q : VK), Inv X pins σ H s → RelV x v → s.heap.IsSliceOf sl vl vu .none → IsPart vl lo → IsPart vu hi → r x lo hi H Q →
    ∃ T id, typeLookup (.type T) "__getitem__" = pure (some (.builtin id)) ∧ s.TypeIs v T ∧ wpAny (model X.prog X.w) X.A (getItem v (.ref sl)) (EP X pins σ Q) X.xe s
noncomputable abbrev tSl (r : V → Option Int → Option Int → Hp → VK → Prop) (te : TE) (tl th : TO) : TE := fun σ H Q => te σ H fun x H1 => tl σ H1 fun l H2 => th σ H2 fun u H3 => r x l u H3 Q
/-- a[lo:hi], any a -/
theorem pe_slice {r : V → Option Int → Option Int → Hp → VK → Prop} (hr : SlR X r) (he : PE X e te) (hl : PO X lo tl) (hu : PO X hi th) : PE X (.Subscript e (.Slice lo hi none p2) pos) (tSl r te tl th) := by
  intro pins s σ H Q I h
  refine Subscript_ (thn (he pins s σ H _ I h) fun v s1 ⟨x, H1, I1, r1, q1⟩ => ?_)
  refine wpAny_Slice (thn (hl pins s1 σ H1 _ I1 q1) fun vl s2 ⟨l, H2, I2, pl, q2⟩ => thn (hu pins s2 σ H2 _ I2 q2) fun vu s3 ⟨u, H3, I3, pu, q3⟩ => ?_)
  rw [evalPart_none]
  refine wpAny_pure ?_
  have I4 : Inv X pins σ H3 { s3 with heap := s3.heap.push { cls := .type "slice", data := .fields #[vl, vu, .none] } } := I3.kept (t' := s3.toks) fun b ob q => Heap.get?_push_of_some _ q
  obtain ⟨T, id, hT, ht, hg⟩ := hr pins { s3 with heap := s3.heap.push { cls := .type "slice", data := .fields #[vl, vu, .none] } } σ H3 x v vl vu l u s3.heap.objs.size Q I4 r1 (Heap.IsSliceOf.new ..) pl pu q3
  show wpAny (model X.prog X.w) X.A (subscriptTail e (.Slice lo hi none p2) v (.ref s3.heap.objs.size)) (EP X pins σ Q) X.xe { s3 with heap := s3.heap.push { cls := .type "slice", data := .fields #[vl, vu, .none] } }
  exact tail_any (ops := [.ref s3.heap.objs.size, v]) ht hT hg (by with_unfolding_all rfl)

/-- the items of xs[lo:hi] -/
noncomputable def cutV (xs : List V) (lo hi : Option Int) : List V := (xs.drop (HT.sIx xs.length 0 lo)).take (HT.sIx xs.length xs.length hi - HT.sIx xs.length 0 lo)
theorem cutV_length (xs : List V) (lo hi : Option Int) : (cutV xs lo hi).length ≤ xs.length := by
  unfold cutV
  rw [List.length_take, List.length_drop]
  omega
/-- t + u, t not empty: u empty gives t itself -/
noncomputable def rCatT (K : PySem.W.Frag) : R2 := fun x y H Q => ∃ a b xs ys, x = .ref a ∧ y = .ref b ∧ SqT K H a xs ∧ SqT K H b ys ∧ xs ≠ [] ∧ xs.length + ys.length ≤ sizeLine ∧
  (ys = [] → Q (.ref a) H) ∧ (ys ≠ [] → ∀ p, H p = none → Q (.ref p) (upd H p (.tup (xs ++ ys))))
theorem Vals.nil_iff {xs : List V} {us : List Value} (r : Vals xs us) : us = [] ↔ xs = [] := by
  cases r with
  | nil => simp
  | cons _ _ => simp
theorem op_catT : OpR X (binaryOp .Add) (rCatT X.K) := by
  intro pins s σ H x y v u Q I rx ry h
  obtain ⟨a, b, xs, ys, rfl, rfl, ha, hb, hx, hz, q1, q2⟩ := h
  cases rx
  cases ry
  obtain ⟨its, r1, p1, _⟩ := I.tuple ha
  obtain ⟨its2, r2, p2, _⟩ := I.tuple hb
  refine HT.cat_tup p1 p2 (fun z => hx (r1.nil_iff.mp z)) (fun z => ⟨.ref a, H, I, rfl, q1 (r2.nil_iff.mp z)⟩) (fun z => ?_) (by rw [← r1.length, ← r2.length]; exact hz)
  refine ⟨.ref s.heap.objs.size, _, I.laid (t' := s.toks) (o := .tup (xs ++ ys)) (fun b ob q => Heap.get?_push_of_some _ q) (Nat.le_refl _) ?_, rfl, q2 (fun w => z (r2.nil_iff.mpr w)) _ (I.hok.fresh (Nat.le_refl _))⟩
  exact ⟨by rw [List.length_append]; exact hz, _, r1.append r2, IsTup.new _ _⟩
end
end L2

namespace L2
open PySem PySem.Spec PyProof.Rows

/-! ### places -/
/-- the place that an index of any sign means -/
noncomputable def ixN (n : Nat) (i : Int) : Option Nat := if 0 ≤ i then (if i < n then some i.toNat else none) else if -(n : Int) ≤ i then some (i + n).toNat else none
noncomputable def atI {α : Type} (xs : List α) (i : Int) : Option α := (ixN xs.length i).bind fun j => xs[j]?
theorem ixN_seq {n : Nat} {i : Int} {j : Nat} (h : ixN n i = some j) : seqIndex? i n = some j ∧ j < n ∧ -(n : Int) ≤ i ∧ i < n := by
  unfold ixN at h
  by_cases h0 : 0 ≤ i
  · rw [if_pos h0] at h
    by_cases h1 : i < n
    · rw [if_pos h1] at h
      have e : i.toNat = j := Option.some.inj h
      exact ⟨by rw [seqIndex_of h0 h1, e], by omega, by omega, h1⟩
    · rw [if_neg h1] at h; cases h
  · rw [if_neg h0] at h
    by_cases h1 : -(n : Int) ≤ i
    · rw [if_pos h1] at h
      have e : (i + n).toNat = j := Option.some.inj h
      exact ⟨by rw [seqIndex_neg (by omega) h1, e], by omega, h1, by omega⟩
    · rw [if_neg h1] at h; cases h
theorem atI_get {α : Type} {xs : List α} {i : Int} {v : α} (h : atI xs i = some v) : ∃ j, seqIndex? i xs.length = some j ∧ xs[j]? = some v ∧ j < xs.length ∧ -(xs.length : Int) ≤ i ∧ i < xs.length := by
  unfold atI at h
  cases e : ixN xs.length i with
  | none => rw [e] at h; cases h
  | some j =>
    rw [e] at h
    obtain ⟨h1, h2, h3, h4⟩ := ixN_seq e
    exact ⟨j, h1, h, h2, h3, h4⟩
theorem atI_nat {α : Type} {xs : List α} {j : Nat} {v : α} (h : xs[j]? = some v) : atI xs (j : Int) = some v := by
  have hj : j < xs.length := (List.getElem?_eq_some_iff.mp h).1
  have e : ixN xs.length (j : Int) = some j := by
    unfold ixN
    rw [if_pos (by omega), if_pos (by omega)]; simp
  unfold atI; rw [e]; exact h
/-! ### what may be subscripted -/
/-- what stands as an index of a plain subscript -/
noncomputable def PlainIx (b : Expr) : Prop := ∀ o i, subscripted b false o i = operate [o, i] (getItem o i)
/-- a subscript by values -/
noncomputable def IxR (X : Cx) (r : R2) : Prop :=
  ∀ (value slice : Expr) (pins : List (Addr × Obj)) (s : Shared) (σ : St) (H : Hp) (x y : V) (v u : Value) (Q : VK), Inv X pins σ H s → RelV x v → RelV y u → r x y H Q →
    subscripted slice false v u = operate [v, u] (getItem v u) → wpAny (model X.prog X.w) X.A (subscriptTail value slice v u) (EP X pins σ Q) X.xe s
/-- a call of a builtin's method by values: the receiver, the arguments -/
noncomputable def MtR (X : Cx) (id : String) (r : V → List V → Hp → VK → Prop) : Prop :=
  ∀ (pins : List (Addr × Obj)) (s : Shared) (σ : St) (H : Hp) (x : V) (xs : List V) (v : Value) (us : List Value) (Q : VK), Inv X pins σ H s → RelV x v → Vals xs us → r x xs H Q →
    wpAny (model X.prog X.w) X.A (call (.builtin id) (v :: us)) (EP X pins σ Q) X.xe s
section
variable {X : Cx} {a b : Expr} {ta tb : TE} {pos : Pos}
theorem IxR.or {r r' : R2} (h : IxR X r) (h' : IxR X r') : IxR X (fun x y H Q => r x y H Q ∨ r' x y H Q) := by
  intro value slice pins s σ H x y v u Q I rx ry q hs
  rcases q with q | q
  · exact h value slice pins s σ H x y v u Q I rx ry q hs
  · exact h' value slice pins s σ H x y v u Q I rx ry q hs
/-- a[b] -/
theorem pe_ix {r : R2} (hr : IxR X r) (ha : PE X a ta) (hb : PE X b tb) (hs : PlainIx b) : PE X (.Subscript a b pos) (tOp r ta tb) := by
  intro pins s σ H Q I h
  exact Subscript_ (binT ha hb I h fun v u s2 x y H2 I2 rx ry q => hr a b pins s2 σ H2 x y v u Q I2 rx ry q (hs _ _))

noncomputable def rIxL (K : PySem.W.Frag) : R2 := fun x y H Q => ∃ p xs i v, x = .ref p ∧ y = .int i ∧ SqL K H p xs ∧ atI xs i = some v ∧ Q v H
noncomputable def rIxT (K : PySem.W.Frag) : R2 := fun x y H Q => ∃ p xs i v, x = .ref p ∧ y = .int i ∧ SqT K H p xs ∧ atI xs i = some v ∧ Q v H
theorem ix_list : IxR X (rIxL X.K) := by
  intro value slice pins s σ H x y v u Q I rx ry h hs
  obtain ⟨p, xs, i, z, rfl, rfl, hq, he, q⟩ := h
  cases rx
  obtain ⟨t, rfl⟩ := ry
  obtain ⟨its, r, pl, hz⟩ := I.list hq
  obtain ⟨j, h1, h2, h3, h4, h5⟩ := atI_get he
  obtain ⟨w, ew, rw'⟩ := r.get h2
  have hl := r.length
  have hn := line63
  have fin : EP X pins σ Q w s := ⟨z, H, I, rw', q⟩
  by_cases h0 : 0 ≤ i
  · have hj : i.toNat = j := by
      rw [seqIndex_of h0 h5] at h1
      exact Option.some.inj h1
    exact item_listR pl.isList h0 (by omega) (by rw [hj]; simpa using ew) fin hs
  · have hj : (i + (its.toArray.size : Int)).toNat = j := by
      rw [seqIndex_neg (by omega) h4] at h1
      rw [List.size_toArray, ← hl]
      exact Option.some.inj h1
    exact subscriptTail_builtinR (x := w) pl.isList.typeIs slot_list_getitem.lookup
      (wpAny_getItem_list_neg (Q := fun r s' => r = w ∧ EP X pins σ Q r s') pl.isList (by omega) (by rw [List.size_toArray] <;> omega) (by omega) (by rw [hj]; simpa using ew) ⟨rfl, fin⟩) hs
theorem ix_tup : IxR X (rIxT X.K) := by
  intro value slice pins s σ H x y v u Q I rx ry h hs
  obtain ⟨p, xs, i, z, rfl, rfl, hq, he, q⟩ := h
  cases rx
  obtain ⟨t, rfl⟩ := ry
  obtain ⟨its, r, pl, hz⟩ := I.tuple hq
  obtain ⟨j, h1, h2, h3, h4, h5⟩ := atI_get he
  obtain ⟨w, ew, rw'⟩ := r.get h2
  have hl := r.length
  have hn := line63
  have fin : EP X pins σ Q w s := ⟨z, H, I, rw', q⟩
  exact subscriptTail_builtinR (x := w) pl.typeIs slot_tuple_getitem.lookup
    (getItem_tuple (j := j) (Q := fun r s' => r = w ∧ EP X pins σ Q r s') pl (by omega) (by omega) (by rw [List.size_toArray, ← hl]; exact h1) (by simpa using ew) ⟨rfl, fin⟩) hs
/-! ### xs[i] = v, any sign -/
/-- the list's object behind a store -/
theorem mapSeq_set (its : List Value) (n j : Nat) (u : Value) : Obj.mapSeq (·.setIfInBounds j u) { cls := .type "list", data := .seq its.toArray n } = { cls := .type "list", data := .seq (its.set j u).toArray n } := by
  simp [Obj.mapSeq]
theorem Inv.lst {pins : List (Addr × Obj)} {σ : St} {H : Hp} {s : Shared} {p : Addr} {xs : List V} (I : Inv X pins σ H s) (h : H p = some (.lst xs)) :
    ∃ (its : List Value) (n : Nat), Vals xs its ∧ s.heap.get? p = some { cls := .type "list", data := .seq its.toArray n } ∧ xs.length ≤ sizeLine := by
  obtain ⟨z, its, n, r, e⟩ := I.hok p _ h
  exact ⟨its, n, r, e, z⟩
/-- the list at p is written by an update of its object -/
theorem Inv.lstUpd {pins : List (Addr × Obj)} {σ : St} {H : Hp} {s : Shared} {p : Addr} {xs ys : List V} {its its' : List Value} {n n' : Nat} {f : Obj → Obj} (I : Inv X pins σ H s) (h : H p = some (.lst xs))
    (ho : s.heap.get? p = some { cls := .type "list", data := .seq its.toArray n }) (hf : f { cls := .type "list", data := .seq its.toArray n } = { cls := .type "list", data := .seq its'.toArray n' }) (r : Vals ys its') (hz : ys.length ≤ sizeLine) (t : Nat) :
    Inv X pins σ (upd H p (.lst ys)) { s with heap := s.heap.update p f, toks := t } := by
  have e : (s.heap.update p f).get? p = some { cls := .type "list", data := .seq its'.toArray n' } := by
    rw [Heap.get?_update_self f ho (by rw [hf] <;> rfl), hf]
  refine I.write (x := p) (e := p) (by rw [h]; trivial) (.inl rfl) (fun b u hb q => (Heap.get?_update_other _ _ (Ne.symm hb)).trans q) ⟨_, e⟩ ?_
  exact ⟨hz, its', n', r, e⟩
noncomputable def rSetL : V → V → V → Hp → (Hp → Prop) → Prop := fun o i v H Q => ∃ p xs k j, o = .ref p ∧ i = .int k ∧ H p = some (.lst xs) ∧ ixN xs.length k = some j ∧ Q (upd H p (.lst (xs.set j v)))
theorem set_list : PSet X rSetL := by
  intro pins s σ H o i v ov iv u Q I ro ri rv h
  obtain ⟨p, xs, k, j, rfl, rfl, hp, hj, q⟩ := h
  cases ro
  obtain ⟨t, rfl⟩ := ri
  obtain ⟨its, n, r, ho, hz⟩ := I.lst hp
  obtain ⟨h1, h2, h3, h4⟩ := ixN_seq hj
  have hl := r.length
  have hn := line63
  have I' : Inv X pins σ (upd H p (.lst (xs.set j v))) { s with heap := s.heap.update p (Obj.mapSeq (·.setIfInBounds j u)) } :=
    I.lstUpd hp ho (mapSeq_set its n j u) (r.set rv j) (by rw [List.length_set]; exact hz) s.toks
  by_cases h0 : 0 ≤ k
  · have hk : k.toNat = j := by
      rw [seqIndex_of h0 h4] at h1
      exact Option.some.inj h1
    exact PySem.W.ki_setAt ho h0 (by omega) (by rw [List.size_toArray, ← hl]; exact h4) (by rw [hk]; exact ⟨_, I', q⟩)
  · have hk : (k + (its.toArray.size : Int)).toNat = j := by
      rw [seqIndex_neg (by omega) h3] at h1
      rw [List.size_toArray, ← hl]
      exact Option.some.inj h1
    exact PySem.W.ki_setBack ho (by omega) (by rw [List.size_toArray, ← hl]; exact h3) (by omega) (by rw [hk]; exact ⟨_, I', q⟩)

/-! ### slices -/
theorem slice_bounds (lo hi : Option Int) (n : Nat) : (sliceBounds lo hi none n).1 = ((HT.sIx n 0 lo : Nat) : Int) ∧ (sliceBounds lo hi none n).2.1 = ((HT.sIx n n hi : Nat) : Int) ∧ (sliceBounds lo hi none n).2.2 = 1 := by
  refine ⟨?_, ?_, rfl⟩
  · cases lo with
    | none => simp [sliceBounds, HT.sIx]
    | some i =>
      simp only [sliceBounds, HT.sIx, Option.getD_none, show (1 : Int) > 0 by decide, if_true]
      by_cases h : i < 0
      · simp only [h, if_true] <;> omega
      · simp only [h, if_false] <;> omega
  · cases hi with
    | none => simp [sliceBounds, HT.sIx]
    | some i =>
      simp only [sliceBounds, HT.sIx, Option.getD_none, show (1 : Int) > 0 by decide, if_true]
      by_cases h : i < 0
      · simp only [h, if_true] <;> omega
      · simp only [h, if_false] <;> omega
theorem slicePick_cut (its : List Value) (lo hi : Option Int) : slicePick its.toArray lo hi none = ((its.drop (HT.sIx its.length 0 lo)).take (HT.sIx its.length its.length hi - HT.sIx its.length 0 lo)).toArray := by
  obtain ⟨h1, h2, h3⟩ := slice_bounds lo hi its.toArray.size
  unfold slicePick
  rw [h1, h2, h3]
  simp only [sliceRange_one, pick_run, List.size_toArray] <;> rfl
/-- xs[lo:hi] of a list: a new list -/
noncomputable def rSlL (K : PySem.W.Frag) : V → Option Int → Option Int → Hp → VK → Prop := fun x lo hi H Q => ∃ a xs, x = .ref a ∧ SqL K H a xs ∧ ∀ p, H p = none → Q (.ref p) (upd H p (.lst (cutV xs lo hi)))
theorem sl_list : SlR X (rSlL X.K) := by
  intro pins s σ H x v vl vu lo hi sl Q I rx hs pl pu h
  obtain ⟨a, xs, rfl, hx, q⟩ := h
  cases rx
  obtain ⟨its, r, ht, hz⟩ := I.list hx
  have hlen := r.length
  refine ⟨"list", _, slot_list_getitem.lookup, ht.isList.typeIs, ?_⟩
  refine wpAny_getItem_list_slice ht.isList hs pl pu .none (by simp) ?_ (by rw [List.size_toArray] <;> omega)
  rw [slicePick_cut, ← hlen]
  refine ⟨.ref s.heap.objs.size, _, I.laid (t' := s.toks) (o := .lst (cutV xs lo hi)) (fun b ob q => Heap.get?_push_of_some _ q) (Nat.le_refl _) ?_, rfl, q _ (I.hok.fresh (Nat.le_refl _))⟩
  exact ⟨Nat.le_trans (cutV_length xs lo hi) hz, _, 0, (r.drop (HT.sIx xs.length 0 lo)).take (HT.sIx xs.length xs.length hi - HT.sIx xs.length 0 lo), Heap.get?_push_size _ rfl⟩

/-! ### len, list(x), tuple(x) of any list or tuple that is read -/
theorem call_len_seq : CallR X (.builtin "len") (fun xs H Q => ∃ p ys, xs = [.ref p] ∧ (SqL X.K H p ys ∨ SqT X.K H p ys) ∧ Q (.int ys.length) H) := by
  intro pins s σ H xs us Q I r h
  obtain ⟨p, ys, rfl, hq, q⟩ := h
  obtain ⟨u, rfl, rx⟩ := vals1 r
  cases rx
  have hn := line63
  rcases hq with hq | hq
  · obtain ⟨its, r', pl, hz⟩ := I.list hq
    have hlen := r'.length
    exact Calls.call_len_list pl.isList (by simp only [List.size_toArray] <;> omega) ⟨.int ys.length, H, I.tok _, ⟨s.toks + 1, by rw [List.size_toArray, hlen]⟩, q⟩
  · obtain ⟨its, r', pl, hz⟩ := I.tuple hq
    have hlen := r'.length
    exact len_tuple pl (by simp only [List.size_toArray] <;> omega) ⟨.int ys.length, H, I.tok _, ⟨s.toks + 1, by rw [List.size_toArray, hlen]⟩, q⟩
theorem call_list_of : CallR X (.type "list") (fun xs H Q => ∃ p ys, xs = [.ref p] ∧ (SqL X.K H p ys ∨ SqT X.K H p ys) ∧ ∀ l, H l = none → Q (.ref l) (upd H l (.lst ys))) := by
  intro pins s σ H xs us Q I r h
  obtain ⟨p, ys, rfl, hq, q⟩ := h
  obtain ⟨u, rfl, rx⟩ := vals1 r
  cases rx
  have fin : ∀ (its : List Value), Vals ys its → ys.length ≤ sizeLine → ∀ (h' : Heap) (c' : Nat), (∀ b o', s.heap.get? b = some o' → h'.get? b = some o') →
      h'.get? s.heap.objs.size = some { cls := .type "list", dict := none, data := .seq its.toArray c', slots := #[] } → EP X pins σ Q (.ref s.heap.objs.size) { s with heap := h' } := fun its r' hz h' c' kp e =>
    ⟨.ref s.heap.objs.size, _, I.laid (t' := s.toks) kp (Nat.le_refl _) (show ObjOk X.prog X.w _ h' _ (.lst ys) from ⟨hz, its, c', r', e⟩), rfl, q _ (I.hok.fresh (Nat.le_refl _))⟩
  rcases hq with hq | hq
  · obtain ⟨its, r', pl, hz⟩ := I.list hq
    have hlen := r'.length
    obtain ⟨o, ho, hc, n, hd⟩ := pl.isList
    exact call_list_seq p (.inl rfl) ho hc hd (fun h' c' kp e => fin its r' hz h' c' kp e) (by simp only [List.size_toArray] <;> omega)
  · obtain ⟨its, r', pl, hz⟩ := I.tuple hq
    have hlen := r'.length
    obtain ⟨o, ho, hc, n, hd⟩ := pl
    exact call_list_seq p (.inr rfl) ho hc hd (fun h' c' kp e => fin its r' hz h' c' kp e) (by simp only [List.size_toArray] <;> omega)
/-! ### the call of a builtin's method: o.m(..) -/
/-- the value is of that builtin type -/
noncomputable def tyV (K : PySem.W.Frag) (T : String) (x : V) (H : Hp) : Prop := match x with
  | .str _ => T = "str"
  | .int _ => T = "int"
  | .ref p => (T = "list" ∧ ∃ xs, SqL K H p xs) ∨ (T = "tuple" ∧ ∃ o, K.lookup p = some o ∧ o.cls = .type "tuple" ∧ o.dict = none) ∨
      (T = "dict" ∧ ((∃ kvs, H p = some (.dK kvs)) ∨ ∃ kvs, H p = some (.dT kvs))) ∨ (T = "set" ∧ ∃ S n, H p = some (.set S n))
  | _ => False
theorem tyV_is {pins : List (Addr × Obj)} {σ : St} {H : Hp} {s : Shared} {T : String} {x : V} {v : Value} (I : Inv X pins σ H s) (r : RelV x v) (ty : tyV X.K T x H) :
    s.TypeIs v T ∧ ∀ a, v = .ref a → ∃ ob, s.heap.get? a = some ob ∧ ob.dict = none := by
  cases x with
  | str z =>
    obtain ⟨t, rfl⟩ := r
    cases (show T = "str" from ty)
    exact ⟨typeIs_str s z t, fun _ e => nomatch e⟩
  | int i =>
    obtain ⟨t, rfl⟩ := r
    cases (show T = "int" from ty)
    exact ⟨typeIs_int s i t, fun _ e => nomatch e⟩
  | ref p =>
    cases r
    rcases ty with ⟨rfl, xs, hq⟩ | ⟨rfl, o, hk, hc, hd⟩ | ⟨rfl, hk⟩ | ⟨rfl, S, n, hk⟩
    · obtain ⟨its, _, pl, _⟩ := I.list hq
      refine ⟨pl.isList.typeIs, fun a e => ?_⟩
      cases e
      obtain ⟨o, n, e, c, hd, _⟩ := pl
      exact ⟨o, e, hd⟩
    · refine ⟨⟨o, I.kIn p o hk, hc⟩, fun a e => ?_⟩
      cases e
      exact ⟨o, I.kIn _ o hk, hd⟩
    · have z : ∃ o, s.heap.get? p = some o ∧ o.ExactDict := by
        rcases hk with ⟨kvs, hk⟩ | ⟨kvs, hk⟩
        · obtain ⟨_, _, _, _, o, _, _, e, ex, _⟩ := I.hok p _ hk
          exact ⟨o, e, ex⟩
        · obtain ⟨_, _, _, _, o, _, _, e, ex, _⟩ := I.hok p _ hk
          exact ⟨o, e, ex⟩
      obtain ⟨o, e, ex⟩ := z
      refine ⟨⟨o, e, ex.1⟩, fun a e2 => ?_⟩
      cases e2
      exact ⟨o, e, ex.2.1⟩
    · obtain ⟨o, _, _, _, e, ex, _⟩ := I.hok p _ hk
      refine ⟨⟨o, e, ex.1⟩, fun a e2 => ?_⟩
      cases e2
      exact ⟨o, e, ex.2.1⟩
  | _ => exact False.elim ty
noncomputable abbrev tBM (K : PySem.W.Frag) (T : String) (r : V → List V → Hp → VK → Prop) (to : TE) (t : TA) : TE := fun σ H Q => to σ H fun x H1 => tyV K T x H1 ∧ t σ H1 fun xs H2 => r x xs H2 Q
variable {o e : Expr} {es : List Expr} {to : TE} {t : TA} {name : Str} {apos cpos : Pos} {T id : String} {r : V → List V → Hp → VK → Prop}
theorem pe_bm (pa : PlainAttrs T) (slot : Slot T name id) (hty : typeOf (.builtin id) = pure (.type "method_descriptor")) (hm : MtR X id r) (ho : PE X o to) (ha : PA X (e :: es) t)
    (hbase : attributeBase o name X.env (eval o X.env) = eval o X.env := by rfl)
    (hfew : ((backTo cpos (starEach (e :: es) X.env)).all (fun x => !x.1) && (backToKw cpos (keywordEach [] X.env)).all (fun x => x.1.isSome)
      && decide ((e :: es).length + ([] : List Keyword).length + (if ([] : List Keyword).isEmpty then 0 else 1) < 30)) = true := by rfl)
    (hline : (apos.endLine == cpos.line) = true := by rfl) (hs : starEach (e :: es) X.env = (false, eval e X.env) :: starEach es X.env := by rfl) (hplain : (backTo cpos (starEach es X.env)).any (·.1) = false := by rfl) :
    PE X (.Call (.Attribute o name apos) (e :: es) [] cpos) (tBM X.K T r to t) := by
  intro pins s σ H Q I h
  refine wpAny_Call_method_late hbase hfew hline rfl (thn (ho pins s σ H _ I h) fun v s1 ⟨x, H1, I1, r1, ty, q1⟩ => ?_)
  obtain ⟨h1, h2⟩ := tyV_is I1 r1 ty
  refine ⟨T, id, pa, slot, hty, h1, h2, ?_⟩
  have hA := ha cpos pins s1 σ H1 _ I1 q1
  rw [hs] at hA ⊢
  refine Calls.callWith_builtin (by show (false || (backTo cpos (starEach es X.env)).any (·.1)) = false; rw [hplain] <;> rfl) (Calls.evalArgs_plain ?_)
  exact thn hA fun us s2 ⟨vs, H2, I2, r2, q2⟩ => hm pins s2 σ H2 x vs v us Q I2 r1 r2 q2
/- xs.append(e), list.index on a module's tuple .. are MtR facts of 06m -/
end
end L2

namespace L2
open PySem PySem.Spec PyProof.Rows

noncomputable def MtM (X : Cx) (id : String) (r : V → List V → Hp → VK → Prop) : Prop :=
  ∀ (pins : List (Addr × Obj)) (s : Shared) (σ : St) (H : Hp) (x : V) (xs : List V) (v : Value) (us : List Value) (Q : VK), Inv X pins σ H s → RelV x v → Vals xs us → r x xs H Q →
    wpAny (model X.prog X.w) X.A (call (.builtin id) (v :: us)) (EP X pins σ Q) X.xe s

/-! ### lists of values -/
theorem Vals.one : ∀ {x : V} {us : List Value}, Vals [x] us → ∃ u, us = [u] ∧ RelV x u
  | _, _, .cons r .nil => ⟨_, rfl, r⟩
theorem Vals.rep {xs : List V} {us : List Value} (h : Vals xs us) : ∀ k : Nat, Vals (List.replicate k xs).flatten (List.replicate k us).flatten
  | 0 => .nil
  | k + 1 => by
    rw [List.replicate_succ, List.replicate_succ, List.flatten_cons, List.flatten_cons]
    exact Vals.append h (Vals.rep h k)
theorem foldl_rep (its : List Value) : ∀ (k : Nat) (acc : List Value),
    List.foldl (fun x1 x2 => x1 ++ x2) acc.toArray (List.replicate k its.toArray) = (acc ++ (List.replicate k its).flatten).toArray
  | 0, acc => by simp
  | k + 1, acc => by
    have e : acc.toArray ++ its.toArray = (acc ++ its).toArray := by simp
    have e2 : (acc ++ its) ++ (List.replicate k its).flatten = acc ++ (List.replicate (k + 1) its).flatten := by
      rw [List.replicate_succ, List.flatten_cons, List.append_assoc]
    rw [← e2, ← foldl_rep its k (acc ++ its), ← e, List.replicate_succ, List.foldl_cons]

section
variable {X : Cx} {pins : List (Addr × Obj)} {σ : St} {H : Hp} {s : Shared} {l b : Addr} {xs ys zs : List V}

/-! ### the two steps: a tracked list is rewritten, a new list is laid -/
theorem Inv.lset {its its' : List Value} {n : Nat} {f : Array Value → Array Value} {t' : Nat} (I : Inv X pins σ H s) (hH : H l = some (.lst xs))
    (e : s.heap.get? l = some { cls := .type "list", data := .seq its.toArray n }) (hf : f its.toArray = its'.toArray) (hv : Vals ys its') (hz : ys.length ≤ sizeLine) :
    Inv X pins σ (upd H l (.lst ys)) { s with heap := s.heap.update l (Obj.mapSeq f), toks := t' } := by
  have q := PySem.IsL.update e f
  rw [hf] at q
  refine I.write (x := l) (e := l) (by rw [hH]; exact trivial) (.inl rfl) (fun b' u hb hu => (Heap.get?_update_other s.heap (Obj.mapSeq f) (Ne.symm hb)).trans hu) ⟨_, q⟩ ?_
  exact ⟨hz, its', _, hv, q⟩
theorem Inv.lnew {its : List Value} {t' : Nat} (I : Inv X pins σ H s) (hv : Vals ys its) (hz : ys.length ≤ sizeLine) :
    Inv X pins σ (upd H s.heap.objs.size (.lst ys)) { s with heap := s.heap.push { cls := .type "list", data := .seq its.toArray }, toks := t' } :=
  I.laid (fun _ _ q => Heap.get?_push_of_some _ q) (Nat.le_refl _) ⟨hz, its, 0, hv, Heap.get?_push_size _ rfl⟩
theorem Inv.fresh (I : Inv X pins σ H s) : H s.heap.objs.size = none := I.hok.fresh (Nat.le_refl _)
theorem Inv.lstM (I : Inv X pins σ H s) (hH : H l = some (.lst xs)) : xs.length ≤ sizeLine ∧ ∃ (its : List Value) (n : Nat), Vals xs its ∧ xs.length = its.length ∧ s.heap.get? l = some { cls := .type "list", data := .seq its.toArray n } := by
  obtain ⟨z, its, n, r, e⟩ := I.hok l _ hH
  exact ⟨z, its, n, r, r.length, e⟩

theorem notLongL {n : Nat} (h : n ≤ sizeLine) : Builtin.List.listTooLong n = false := by
  unfold Builtin.List.listTooLong
  exact decide_eq_false (by omega)
end

section
variable {X : Cx}

/-! ### methods -/
noncomputable def rAppend : V → List V → Hp → VK → Prop := fun x vs H Q => ∃ l xs y, x = .ref l ∧ vs = [y] ∧ H l = some (.lst xs) ∧ xs.length < sizeLine ∧ Q .non (upd H l (.lst (xs ++ [y])))
theorem mt_append : MtM X "list.append" rAppend := by
  intro pins s σ H x vs v us Q I rx rv h
  obtain ⟨l, xs, y, rfl, rfl, hH, hz, q⟩ := h
  cases rx
  obtain ⟨u, rfl, ru⟩ := rv.one
  obtain ⟨z, its, n, r, hl, e⟩ := I.lstM hH
  refine call_meets F.slot_list_append ⟨_, e, rfl⟩ F.entry_list_append (F.args_list_append_2 _ _) (PySem.list_append l its.toArray n u (by rw [List.size_toArray]; omega)) ⟨e, ?_⟩
  refine ⟨.non, _, I.lset (its' := its ++ [u]) hH e (by simp) (r.append (.cons ru .nil)) ?_, rfl, q⟩
  rw [List.length_append, List.length_singleton]
  omega

/-- a list times an int (a negative one is nothing) -/
noncomputable def rRep : R2 := fun x y H Q => ∃ l k xs, x = .ref l ∧ y = .int k ∧ H l = some (.lst xs) ∧ -(2 ^ 63) ≤ k ∧ k < 2 ^ 63 ∧ xs.length * k.toNat ≤ sizeLine ∧
  ∀ p, H p = none → Q (.ref p) (upd H p (.lst (List.replicate k.toNat xs).flatten))
theorem len_rep {α : Type} (xs : List α) (k : Nat) : (List.replicate k xs).flatten.length = k * xs.length := by
  induction k with
  | zero => simp
  | succ k ih => rw [List.replicate_succ, List.flatten_cons, List.length_append, ih, Nat.succ_mul, Nat.add_comm]
theorem op_rep : OpR X (binaryOp .Mult) rRep := by
  intro pins s σ H x y v u Q I rx ry h
  obtain ⟨l, k, xs, rfl, rfl, hH, h1, h2, hz, q⟩ := h
  cases rx
  obtain ⟨t, rfl⟩ := ry
  obtain ⟨z, its, n, r, hl, e⟩ := I.lstM hH
  have hlen : its.toArray.size * k.toNat ≤ sizeLine := by rw [List.size_toArray, ← hl]; exact hz
  have hcap : ¬ its.toArray.size * k.toNat > (2 ^ 63 - 1) / 8 := by
    have : (sizeLine : Nat) ≤ (2 ^ 63 - 1) / 8 := by decide
    omega
  have hfit : ¬ (!Builtin.List.listFitsIndex k) = true := by
    rw [fitsIndex_both h1 h2]
    exact Bool.false_ne_true
  have hlong : ¬ Builtin.List.listTooLong (its.toArray.size * k.toNat) = true := by
    rw [notLongL hlen]
    exact Bool.false_ne_true
  have hnew : List.foldl (fun x1 x2 => x1 ++ x2) #[] (List.replicate (if its.toArray.isEmpty = true then 0 else k.toNat) its.toArray) = (List.replicate k.toNat its).flatten.toArray := by
    have f0 : ∀ m : Nat, List.foldl (fun x1 x2 => x1 ++ x2) #[] (List.replicate m its.toArray) = (List.replicate m its).flatten.toArray := fun m => by
      have := foldl_rep its m []
      rw [List.nil_append] at this
      exact this
    rw [f0]
    cases its with
    | nil => simp
    | cons a r' => rw [if_neg (by simp)]
  refine wpAny_binaryOp_repeat_ref (T := "list") (U := "int") (by decide) ⟨_, e, rfl⟩ (fun s' => typeIs_int s' k t) noFill_list_mul F.fills_int_mul F.slot_int_rmul repeat_list F.slot_int_index.lookup
    (call_meets F.slot_int_rmul (typeIs_int s k t) F.entry_int_rmul (F.args_int_rmul_2 _ _) (int___rmul___int_list k t l its.toArray n)
      ⟨e, rfl, ⟨_, e, rfl⟩, call_meets F.slot_list_mul ⟨_, e, rfl⟩ F.entry_list_mul (F.args_list_mul_2 _ _) (AutoListH.list___mul___list_int_3 l its.toArray n k t hfit hcap hlong) ⟨e, ?_⟩⟩)
  rw [hnew]
  exact ⟨.ref _, _, I.lnew (t' := s.toks) (r.rep k.toNat) (by rw [len_rep, Nat.mul_comm]; exact hz), rfl, q _ I.fresh⟩

end

/-! ### xs[a:b] = ys -/
section
variable {prog : Program} {w : World} {A : Around} {E : Value → Shared → Prop} {s : Shared}
set_option maxRecDepth 100000 in
end

section
variable {X : Cx}
end
end L2

namespace Att
open PySem PySem.W PySem.Calls PyProof.Rows

/-! ### the script -/
theorem ints_of_wellAll {P : Params} {h : Heap} : ∀ (ns : List Int) (vs : List Value), WellAll P h vs (ns.map WData.int) → IntsAre vs ns := by
  intro ns
  induction ns with
  | nil =>
    intro vs w
    rw [List.map_nil] at w
    cases w
    exact .nil
  | cons n ns ih =>
    intro vs w
    rw [List.map_cons] at w
    cases w with
    | cons a b =>
      cases a
      exact .cons _ _ (ih _ b)

theorem script_of {l : OpenLaw} {n : Nat} (hn : l.most = some n) {P : Params} {h : Heap} {args : List WData} {vals : List Value}
    (hpre : l.row.toRowW.claim.pre args = true) (hwl : WellAll P h vals args) :
    ∃ a vs ns, vals = [Value.ref a] ∧ args = [WData.list (ns.map WData.int)] ∧ h.get? a = some { cls := .type "list", data := .seq vs.toArray } ∧ IntsAre vs ns ∧ ns.length ≤ n := by
  have hsh : WShape.hasAll [] args [.list .int] = true := (pre_splitW hpre).1
  have hc : l.pre.holds [] { args := args } = true := (pre_splitW hpre).2
  obtain ⟨d, r, rfl, h1, h2⟩ := hasAllW_cons hsh
  obtain rfl := hasAllW_nil h2
  obtain ⟨xs, rfl, h3⟩ := hasW_list h1
  obtain ⟨ns, rfl⟩ := items_int h3
  have hlen : ns.length ≤ n := by
    unfold OpenLaw.pre at hc
    have h4 : (WTm.not (.lt (.lit (.int (n : Int))) (.len (.arg 0)))).holds [] { args := [.list (ns.map .int)] } = true := by
      have h4 := (holds_andW hc).1
      rw [hn] at h4
      exact h4
    have h5 := condW_of h4 (w_not (w_lt w_lit (w_len_list (w_arg rfl))))
    rw [List.length_map] at h5
    refine Nat.le_of_not_lt fun q => ?_
    have q' : (n : Int) < ((ns.length : Nat) : Int) := by omega
    first
      | (rw [decide_eq_true q'] at h5; exact absurd h5 (by decide))
      | (simp at h5; omega)
  cases hwl with
  | cons w1 w2 =>
    cases w2
    cases w1 with
    | list ho hall => exact ⟨_, _, ns, rfl, rfl, ho, ints_of_wellAll ns _ hall, hlen⟩

theorem post_true (l : OpenLaw) (args : List WData) : l.row.toRowW.claim.post args (.bool true) args = true :=
  postW_of (r := l.row.toRowW) (X := (true == true))
    (show WShape.has [] (.bool true) .bool = true by first | rfl | decide | simp [WShape.has, WShape.arms, WShape.armsAll])
    (show (WTm.eq .res (.lit (.bool true))).value [] { args := args, res := some (.bool true), after := args } = some (.bool (true == true)) from w_eq_bool (w_res rfl) w_lit) rfl

/-- the same from a codeAny of the CALL (for a layer whose function contracts speak of calls) -/
theorem attach_call {l : OpenLaw} {n : Nat} {q : Program} {loose : List Str} {XP : (Str → Option Value) → Heap → Prop} {YP : World → Heap → Prop} {d : DefRec}
    (hn : l.most = some n) (hdf : d.params.defaults = [])
    (call : ∀ (w : World) (s₀ s₁ : Shared) (mg mb : Str → Option Value) (fa : Addr) (o : Obj) (pm cd doc : Value) (a : Addr) (vs : List Value) (ns : List Int),
      Ground q loose [] XP w s₀ mg mb s₁.heap → YP w s₁.heap →
      s₁.heap.get? fa = some o → o.data = .func (docDef d.name d.params d.body d.scope pm cd doc) → s₁.heap.CodeRec cd d.name → mg d.name = some (.ref fa) →
      s₁.heap.get? a = some { cls := .type "list", data := .seq vs.toArray } → IntsAre vs ns → ns.length ≤ n → s₁.gens = #[] →
      codeAny (model l.prog w) callerA (.call (.ref fa) ⟨[.ref a], []⟩) (fun r s' => r = .ok (.ret (.bool true)) ∧ OldK s₁.heap s'.heap ∧ s'.os = s₁.os ∧ AllBare s'.gens) s₁) :
    WalkO q loose XP YP l.row.toRowW d [] (fun f vs => PySem.call f vs) := by
  intro w s₀ s₁ mg mb G Y fa o pm cd doc dV kV ho hd hcd hD hmg hg args vals as hpre hlay hrd hwl hlo
  obtain rfl : dV = .none := Dflts.none hD hdf
  obtain rfl : kV = .none := Dflts.noKw hD
  obtain ⟨a, vs, ns, rfl, rfl, hobj, hints, hlen⟩ := script_of hn hpre hwl
  refine enter_call (codeAny_mono (call w s₀ s₁ mg mb fa o pm cd doc a vs ns G Y ho (fd_plain hd) hcd hmg hobj hints hlen hg) fun r s' hq => ?_)
  obtain ⟨rfl, h2, h3, h4⟩ := hq
  exact ⟨.inl ⟨.bool true, .bool true, [], rfl, fun _ => rfl, .bool true, post_true l _, fun _ => ⟨List.Pairwise.nil, fun _ hm => (nomatch hm)⟩⟩, h2, h3, h4⟩

/-! ### rules over ANY heap (no ledger) from facts about the written part K: the library's own take a ledger (News) for what they write -/
section
variable {prog : Program} {w : World} {A : Around} {E : Value → Shared → Prop} {s : Shared} {K : Frag}

end
end Att

namespace L2
open PySem PySem.Spec PyProof.Rows

theorem vals_ints : ∀ {vs : List Value} {ns : List Int}, IntsAre vs ns → Vals (ns.map V.int) vs
  | _, _, .nil => .nil
  | _, _, .cons n t h => .cons ⟨t, rfl⟩ (vals_ints h)

/-- nothing is tracked but the script, known to the object (or it is an object of the module) -/
noncomputable def Only (H : Hp) : Prop := ∀ b, H b = none ∨ ∃ o xs, H b = some (.frz o (.lst xs))

end L2

namespace L2
open PySem PySem.Spec PyProof.Rows

end L2

/- THE LAST THEOREM (shape; LID, My.* are yours):
   My.Adr: a structure of the addresses that your layer names (classes, functions); My.Txt K t: a structure (Prop) of the equations over K;
   My.txt_mk : {K} {implicit addresses ..} (e1 : nsIn K mainGlobals "law" = some (some (.ref f))) (e2 : K.lookup f = some ⟨oc, od, .func (fnOf "law" "law" params body scope dV kV doc pm an cdv ct), sl⟩) (e3 : codeIn K cdv "law" = true) .. : ∃ t, My.Txt K t

set_option maxRecDepth 100000 in
set_option maxHeartbeats 0 in
theorem PySem.Challenge.cw_LID_holds : PySem.Challenge.rw_LID.Holds := by
  w_on; o_law; k_head; (case hw => w_witness2)
  k_fill
  refine L2.walk_of (l := PySem.Challenge.rw_LID) (n := 63) (k := 40) (x := "script") (CX := fun w => ..) (sp := fun _ => My.sp_law) rfl (by decide) rfl ⟨rfl, by decide, by decide⟩ (fun w h Y => PySem.W.kIn_of Y) ?F ?S ?C
  case F =>
    intro w mg fa h KX G hmg
    have T : ∃ t, My.Txt (L2.KOf KX) t := by
      dsimp only [L2.KOf]                          -- K must stand as «<heap const> w.params» for k_is
      refine' My.txt_mk ?e1 ?e2 ?e3 ..
      (case e1 => PySem.W.k_is)                    -- in the order: a name -> its address -> its object -> its parts
      (case e2 => PySem.W.k_is)
      ..
    obtain ⟨t, T⟩ := T
    have e0 := hmg.symm.trans (PySem.W.mg_of KX G T.law)
    cases e0                                       -- fa is the law's own address
    exact ⟨_, fun s u => .of_eq rfl, fun base kb nb => My.law_fn T kb nb⟩     -- if «.of_eq rfl» comes too early: refine' ⟨_, ?b, fun base kb nb => My.law_fn T kb nb⟩; exact fun s u => .of_eq rfl
  case S => exact fun w H a ns hl hO hS => ..
  case C => exact ..
(the tactic k_is has no namespace: write k_is) -/

/-! SHORT WORDS over the layer: a def of the text, its body, what a loop and a test want. -/
namespace L2
open PySem PySem.Spec PyProof.Rows

noncomputable def defArgs (s : Stmt) : Arguments := match s with
  | .FunctionDef _ a _ _ _ _ _ _ _ _ => a
  | _ => { posonlyargs := [], args := [], vararg := none, kwonlyargs := [], kw_defaults := [], kwarg := none, defaults := [] }
noncomputable def defBody (s : Stmt) : List Stmt := match s with
  | .FunctionDef _ _ b _ _ _ _ _ _ _ => b
  | _ => []
noncomputable def defScope (s : Stmt) : Scope := match s with
  | .FunctionDef _ _ _ _ _ _ sc _ _ _ => sc
  | _ => { kind := .function, names := [], isGenerator := false, isCoroutine := false }

/-! ### a def (or method) of the text as it stands behind the top -/
structure Fun (K : PySem.W.Frag) (x qual : Str) (st : Stmt) (f : Addr) (fd : FuncData) : Prop where
  ex : ∃ (oc : Value) (od : Option Addr) (kV doc pm : Value) (an : Option Addr) (cdv ct : Value) (osl : Array (Option Value)),
    fd = PySem.W.fnOf x qual (defArgs st) (defBody st) (defScope st) .none kV doc pm an cdv ct ∧ K.lookup f = some ⟨oc, od, .func fd, osl⟩ ∧ PySem.W.codeIn K cdv qual = true
  kp : PySem.W.keepIn K (.ref f) = true
section
variable {P : Program} {w : World} {K : PySem.W.Frag} {mg : Str → Option Value} {base : Heap}
/-- how its arguments bind (no defaults): h is «fun _ _ _ _ _ _ us hl => match us, hl with | [_, _], _ => rfl», one _ a parameter -/
theorem Fun.binds {x qual : Str} {st : Stmt} {f : Addr} {fd : FuncData} {ps : List Str} (F : Fun K x qual st f fd)
    (h : ∀ (kV doc pm : Value) (an : Option Addr) (cdv ct : Value) (us : List Value), us.length = ps.length → bindArgs (PySem.W.fnOf x qual (defArgs st) (defBody st) (defScope st) .none kV doc pm an cdv ct) ⟨us, []⟩ = pure (ps.zip us)) : Binds K fd ps [] := by
  obtain ⟨oc, od, kV, doc, pm, an, cdv, ct, osl, rfl, lk, hcd⟩ := F.ex
  exact .all (h kV doc pm an cdv ct)
theorem fun_mk {x qual : Str} {st : Stmt} {f : Addr} {oc : Value} {od an : Option Addr} {osl : Array (Option Value)} {kV doc pm cdv ct : Value} (l : K.lookup f = some ⟨oc, od, .func (PySem.W.fnOf x qual (defArgs st) (defBody st) (defScope st) .none kV doc pm an cdv ct), osl⟩)
    (c : PySem.W.codeIn K cdv qual = true) (k : PySem.W.keepIn K (.ref f) = true) : Fun K x qual st f (PySem.W.fnOf x qual (defArgs st) (defBody st) (defScope st) .none kV doc pm an cdv ct) := ⟨⟨oc, od, kV, doc, pm, an, cdv, ct, osl, rfl, l, c⟩, k⟩
end
/-! ### expressions in short: the name that stands in the i-th slot -/
section
variable {X : Cx}
theorem pv (i : Nat) {x : Str} {pos : Pos} (hN : X.N[i]? = some x := by rfl) (hv : Vis X.env.scope x := by first | exact Or.inl rfl | exact Or.inr (Or.inl rfl) | exact Or.inr (Or.inr rfl)) (hd : (x == ("__debug__" : Str)) = false := by decide)
    (hcd : (x == ("__classdict__" : Str)) = false := by decide) : PE X (.Name x pos) (tVar i) := pe_var hN hv hd hcd
end

/-! ### heaps -/
/-- all that was tracked is as it was -/
noncomputable def Same (H H' : Hp) : Prop := ∀ b o, H b = some o → H' b = some o
theorem Same.refl (H : Hp) : Same H H := fun _ _ h => h
theorem Same.trans {H H1 H2 : Hp} (a : Same H H1) (b : Same H1 H2) : Same H H2 := fun c o h => b c o (a c o h)
end L2
set_option maxHeartbeats 4000000
set_option exponentiation.threshold 20000
namespace L2
open PySem PySem.Spec PyProof.Rows
section
variable {X : Cx}
variable {tg : Expr}
end
end L2
namespace L2
open PySem PySem.Spec PyProof.Rows
end L2

namespace L2
open PySem PySem.Spec PyProof.Rows
/-! ### exceptions -/
section
variable {P : Program} {w : World} {H H' : Hp} {h : Heap} {a : Addr} {o : HO}
theorem ObjOk.here (x : ObjOk P w H h a o) : ∃ ob, h.get? a = some ob := by
  cases o with
  | lst xs => obtain ⟨_, _, _, _, e⟩ := x; exact ⟨_, e⟩
  | tup xs => obtain ⟨_, _, _, e⟩ := x; obtain ⟨ob, e, _⟩ := e; exact ⟨_, e⟩
  | dK kvs => obtain ⟨_, _, _, _, e⟩ := x; obtain ⟨ob, _, _, e, _⟩ := e; exact ⟨_, e⟩
  | dT kvs => obtain ⟨_, _, _, _, ob, _, _, e, _⟩ := x; exact ⟨_, e⟩
  | set S n => obtain ⟨ob, _, _, _, e, _⟩ := x; exact ⟨_, e⟩
  | ins C dx fs => obtain ⟨_, _, _, e, _⟩ := x; exact ⟨_, e⟩
  | own y => exact x
  | xd fs => obtain ⟨_, ⟨ob, _, _, e, _⟩, _⟩ := x; exact ⟨_, e⟩
  | met f y => exact ⟨_, x⟩
  | rng lo hi => obtain ⟨_, _, _, e⟩ := x; exact ⟨_, e⟩
  | frz ob u => exact ⟨_, x.1⟩
  | tbl ps => exact ⟨_, x⟩
  | ext φ => exact x.2.1
theorem HOk.none_of (ok : HOk P w H h) (e : h.get? a = none) : H a = none := by
  cases q : H a with
  | none => rfl
  | some o =>
    obtain ⟨ob, z⟩ := (ok a o q).here
    rw [e] at z; cases z
end
/-- an exception in flight: of the class cls, at ea; what the call found at s (H there) and what is tracked now (H') stands in B -/
structure Fly (P : Program) (w : World) (l : List Env) (H H' : Hp) (s : Shared) (ea : Addr) (cls : Value) (s' : Shared) : Prop where
  os : s'.os = s.os
  bare : AllBare s'.gens
  un : Un (frs l) [] H H' s.heap s'.heap
  hok : HOk P w H' s'.heap
  ne : H' ea = none
  new : s.heap.get? ea = none
  fly : ∃ B a0, Heap.FlyingW B l ea cls a0 s'.heap ∧ (∀ b o, s'.heap.get? b = some o → ((∃ o', s.heap.get? b = some o') ∨ H' b ≠ none) → b ∉ frs l → B.get? b = some o)
noncomputable def CX1 (P : Program) (w : World) : CXT := fun outer H s E e s' => ∃ ea cls H', e = .ref ea ∧ Fly P w outer H H' s ea cls s' ∧ E cls none H'
/-- the context is a def's body: its own frame stands on top -/
structure Own (X : Cx) : Prop where
  stk : X.stack = X.env :: X.outer
  fr : X.env.frame = some X.env.locals
  ex : X.ex = []
section
variable {X : Cx} {pins : List (Addr × Obj)} {σ : St} {H H' : Hp} {s s' : Shared} {ea : Addr} {cls : Value}
theorem frs_cons (O : Own X) : frs X.stack = X.env.locals :: X.fs := by
  rw [O.stk]
  show List.filterMap _ (_ :: _) = _
  rw [List.filterMap_cons, O.fr]
  rfl
theorem Inv.there0 (I : Inv X pins σ H s) (O : Own X) {b : Addr} {o : Obj} (e : X.s₀.heap.get? b = some o) : ∃ o', s.heap.get? b = some o' := I.base.there b o e (by rw [O.ex]; simp)
theorem Inv.ne0 (I : Inv X pins σ H s) {b : Addr} {o : Obj} (e : X.s₀.heap.get? b = some o) : b ≠ X.env.locals := Nat.ne_of_lt (Nat.lt_of_lt_of_le (Heap.lt_size e) I.ok.above)
/-- from a body, an exception that a callee let fly, behind the body's own frame: B stays, the frames' slots may have changed -/
theorem Fly.leave (I : Inv X pins σ H s) (O : Own X) (F : Fly X.prog X.w X.stack H H' s ea cls s') {h' : Heap} {B : Heap} {a0 : Value}
    (hf : Heap.FlyingW B X.stack ea cls a0 s'.heap) (cov : ∀ b o, s'.heap.get? b = some o → ((∃ o', s.heap.get? b = some o') ∨ H' b ≠ none) → b ∉ frs X.stack → B.get? b = some o)
    (hf' : Heap.FlyingW B X.outer ea cls a0 h') (up : s'.heap.UpToSlots h') : Fly X.prog X.w X.outer X.H₀ H' X.s₀ ea cls { s' with heap := h' } := by
  have fst : frs X.stack = X.env.locals :: X.fs := frs_cons O
  have nin : ∀ {b : Addr}, b ≠ X.env.locals → b ∉ X.fs → b ∉ frs X.stack := fun h1 h2 => by rw [fst]; simp [h1, h2]
  have trk : ∀ {b : Addr}, H' b ≠ none → b ∉ frs X.stack := fun {b} hb hm => by
    have h1 := I.stkFree b hm
    obtain ⟨_, o, ho, _⟩ := I.stack.mem hm
    exact hb (F.un.free b o ho h1 (by simp))
  have keepB : ∀ {b : Addr} {o : Obj}, s'.heap.get? b = some o → ((∃ o', s.heap.get? b = some o') ∨ H' b ≠ none) → b ∉ frs X.stack → h'.get? b = some o := fun e1 e2 e3 => hf'.1 _ _ (cov _ _ e1 e2 e3)
  have slotOf : ∀ {b : Addr} {o : Obj}, b ∈ frs X.stack → s'.heap.get? b = some o → ∃ sl, h'.get? b = some { o with slots := sl } := fun {b o} hm e => by
    obtain ⟨_, o', ho', hn⟩ := hf.2.2.1.mem hm
    rw [e] at ho'; cases ho'
    exact up b o e hn
  refine ⟨F.os.trans I.os, F.bare, ⟨?_, ?_, ?_, ?_, ?_, ?_, ?_⟩, ?_, F.ne, ?_, ⟨B, a0, hf', ?_⟩⟩
  · intro b o e n hb hx
    have e1 := I.base.keep b o e n hb (by rw [O.ex]; simp)
    have n1 := I.base.free b o e n (by rw [O.ex]; simp)
    have hs : b ∉ frs X.stack := nin (I.ne0 e) hb
    exact keepB (F.un.keep b o e1 n1 hs (by simp)) (.inl ⟨o, e1⟩) hs
  · intro b o e n hb hx
    obtain ⟨sl, e1⟩ := I.base.slot b o e n hb (by rw [O.ex]; simp)
    have n1 := I.base.free b o e n (by rw [O.ex]; simp)
    have hs : b ∈ frs X.stack := by rw [fst]; exact List.mem_cons_of_mem _ hb
    obtain ⟨sl2, e2⟩ := F.un.slot b _ e1 n1 hs (by simp)
    obtain ⟨sl3, e3⟩ := slotOf hs e2
    exact ⟨sl3, e3⟩
  · intro b o e n hx
    obtain ⟨o1, e1⟩ := I.there0 O e
    exact F.un.free b o1 e1 (I.base.free b o e n (by rw [O.ex]; simp)) (by simp)
  · intro b o e hx
    obtain ⟨o1, e1⟩ := I.there0 O e
    obtain ⟨o2, e2⟩ := F.un.there b o1 e1 (by simp)
    by_cases hs : b ∈ frs X.stack
    · obtain ⟨sl, e3⟩ := slotOf hs e2
      exact ⟨_, e3⟩
    · exact ⟨o2, keepB e2 (.inl ⟨o1, e1⟩) hs⟩
  · exact fun b xs e => F.un.tups b xs (I.base.tups b xs e)
  · exact fun b o u e => F.un.frzs b o u (I.base.frzs b o u e)
  · intro b ps e
    obtain ⟨m1, e1⟩ := I.base.tbls b ps e
    obtain ⟨m2, e2⟩ := F.un.tbls b _ e1
    exact ⟨m1 ++ m2, by rw [e2, Array.append_assoc]⟩
  · intro a o e
    refine (F.hok a o e).stay (fun b u hb z => ?_) (fun b z => z) (fun b xs z => z)
    have hb' : H' b ≠ none := by
      rcases hb with rfl | hb
      · rw [e]; simp
      · rw [hb]; simp
    exact keepB z (.inr hb') (trk hb')
  · show X.s₀.heap.get? ea = none
    cases q : X.s₀.heap.get? ea with
    | none => rfl
    | some o =>
      obtain ⟨o1, e1⟩ := I.there0 O q
      rw [F.new] at e1; cases e1
  · intro b o e c hb
    have c' : (∃ o', s.heap.get? b = some o') ∨ H' b ≠ none := by
      rcases c with ⟨o', c⟩ | c
      · exact .inl (I.there0 O c)
      · exact .inr c
    have hs : b ∉ frs X.stack := by
      rcases c with ⟨o', c⟩ | c
      · exact nin (I.ne0 c) hb
      · exact trk c
    have ex : ∃ o2, s'.heap.get? b = some o2 := by
      rcases c' with ⟨o', c1⟩ | c1
      · exact F.un.there b o' c1 (by simp)
      · cases q : H' b with
        | none => exact absurd q c1
        | some u => exact (F.hok b u q).here
    obtain ⟨o2, e2⟩ := ex
    have z := keepB e2 c' hs
    have z' : h'.get? b = some o := e
    rw [z] at z'; cases z'
    exact cov b o e2 c' hs
end
end L2
namespace L2
open PySem PySem.Spec PyProof.Rows
section
variable {X : Cx} {pins : List (Addr × Obj)} {σ : St} {H H' : Hp} {s s' : Shared} {ea : Addr} {cls : Value}
theorem frs_in (l : List Env) : ∀ env ∈ l, ∀ b, env.frame = some b → b ∈ frs l := fun env he b hb => List.mem_filterMap.mpr ⟨env, he, hb⟩
/-- from a body, an exception that was just made -/
theorem Fly.made (I : Inv X pins σ H s) (O : Own X) {vs : List Value} (hx : Heap.MadeExcOf s.heap s'.heap ea cls vs) (hos : s'.os = s.os) (hg : AllBare s'.gens) {h' : Heap} {t : Addr}
    (hf' : Heap.FlyingW (PySem.W.hideAll s.heap (frs X.stack)) X.outer ea cls (.ref t) h') (up : s'.heap.UpToSlots h') : Fly X.prog X.w X.outer X.H₀ H X.s₀ ea cls { s' with heap := h' } := by
  have fst : frs X.stack = X.env.locals :: X.fs := frs_cons O
  have nin : ∀ {b : Addr}, b ≠ X.env.locals → b ∉ X.fs → b ∉ frs X.stack := fun h1 h2 => by rw [fst]; simp [h1, h2]
  have trk : ∀ {b : Addr}, H b ≠ none → b ∉ frs X.stack := fun {b} hb hm => hb (I.stkFree b hm)
  have keepB : ∀ {b : Addr} {o : Obj}, s.heap.get? b = some o → b ∉ frs X.stack → h'.get? b = some o := fun e1 e3 => hf'.1 _ _ (PySem.W.hideAll_get _ e1 e3)
  have slotOf : ∀ {b : Addr} {o : Obj}, b ∈ frs X.stack → s.heap.get? b = some o → ∃ sl, h'.get? b = some { o with slots := sl } := fun {b o} hm e => by
    obtain ⟨_, o', ho', hn⟩ := I.stack.mem hm
    rw [e] at ho'; cases ho'
    exact up b o (hx.keeps b o e) hn
  refine ⟨hos.trans I.os, hg, ⟨?_, ?_, ?_, ?_, ?_, ?_, ?_⟩, ?_, ?_, ?_, ⟨_, _, hf', ?_⟩⟩
  · intro b o e n hb hx'
    exact keepB (I.base.keep b o e n hb (by rw [O.ex]; simp)) (nin (I.ne0 e) hb)
  · intro b o e n hb hx'
    obtain ⟨sl, e1⟩ := I.base.slot b o e n hb (by rw [O.ex]; simp)
    have hs : b ∈ frs X.stack := by rw [fst]; exact List.mem_cons_of_mem _ hb
    obtain ⟨sl3, e3⟩ := slotOf hs e1
    exact ⟨sl3, e3⟩
  · exact fun b o e n hx' => I.base.free b o e n (by rw [O.ex]; simp)
  · intro b o e hx'
    obtain ⟨o1, e1⟩ := I.there0 O e
    by_cases hs : b ∈ frs X.stack
    · obtain ⟨sl, e3⟩ := slotOf hs e1
      exact ⟨_, e3⟩
    · exact ⟨o1, keepB e1 hs⟩
  · exact fun b xs e => I.base.tups b xs e
  · exact fun b o u e => I.base.frzs b o u e
  · exact fun b ps e => I.base.tbls b ps e
  · intro a o e
    refine (I.hok a o e).stay (fun b u hb z => ?_) (fun b z => z) (fun b xs z => z)
    have hb' : H b ≠ none := by
      rcases hb with rfl | hb
      · rw [e]; simp
      · rw [hb]; simp
    exact keepB z (trk hb')
  · exact I.hok.none_of hx.new
  · show X.s₀.heap.get? ea = none
    cases q : X.s₀.heap.get? ea with
    | none => rfl
    | some o =>
      obtain ⟨o1, e1⟩ := I.there0 O q
      rw [hx.new] at e1; cases e1
  · intro b o e c hb
    have hs : b ∉ frs X.stack := by
      rcases c with ⟨o', c⟩ | c
      · exact nin (I.ne0 c) hb
      · exact trk c
    have ex : ∃ o2, s.heap.get? b = some o2 := by
      rcases c with ⟨o', c1⟩ | c1
      · exact I.there0 O c1
      · cases q : H b with
        | none => exact absurd q c1
        | some u => exact (I.hok b u q).here
    obtain ⟨o2, e2⟩ := ex
    have z := keepB e2 hs
    have z' : h'.get? b = some o := e
    rw [z] at z'; cases z'
    exact PySem.W.hideAll_get _ e2 hs
end
section
variable {CX : CXT} {P : Program} {w : World} {K : PySem.W.Frag} {mg : Str → Option Value} {base : Heap} {N : List Str} {qual : Str} {scope : Scope} {f : Addr} {cd : Value} {A : Around} {outer : List Env} {s₀ : Shared} {H₀ : Hp} {E : XK}
theorem own_cx : Own (cxOf CX P w K mg base N qual scope f cd A outer s₀ H₀ E) := ⟨rfl, rfl, rfl⟩
/-- an exception of a callee goes on through the body -/
theorem passX {E' : XK} (h : ∀ c H', E' c none H' → E c none H') : Passes (CX1 P w) (cxOf (CX1 P w) P w K mg base N qual scope f cd A outer s₀ H₀ E) E' := by
  intro pins σ H s e s' I hc
  obtain ⟨ea, cls, H', rfl, F, q⟩ := hc
  obtain ⟨B, a0, hf, cov⟩ := F.fly
  have O : Own (cxOf (CX1 P w) P w K mg base N qual scope f cd A outer s₀ H₀ E) := own_cx
  exact wpAny_leaves_onW (I.ok.frames.trans (congrArg some O.stk)) O.fr hf fun h' hf' up => ⟨ea, cls, H', rfl, F.leave I O hf cov hf' up, h _ _ q⟩
/-- an exception that the body makes -/
theorem made_leaves {pins : List (Addr × Obj)} {σ : St} {H : Hp} {s s' : Shared} {ea : Addr} {cls : Value} {vs : List Value} (I : Inv (cxOf (CX1 P w) P w K mg base N qual scope f cd A outer s₀ H₀ E) pins σ H s)
    (hx : Heap.MadeExcOf s.heap s'.heap ea cls vs) (hos : s'.os = s.os) (hg : AllBare s'.gens) (q : E cls none H) : (cxOf (CX1 P w) P w K mg base N qual scope f cd A outer s₀ H₀ E).xe (.ref ea) s' := by
  have O : Own (cxOf (CX1 P w) P w K mg base N qual scope f cd A outer s₀ H₀ E) := own_cx
  have hst := O.stk
  exact wpAny_leaves_madeW (base := PySem.W.hideAll s.heap (frs (cxOf (CX1 P w) P w K mg base N qual scope f cd A outer s₀ H₀ E).stack)) (h := s.heap) (I.ok.frames.trans (congrArg some O.stk)) O.fr (fun b o z => PySem.W.of_hideAll _ z)
    (PySem.W.funFrames_hide (I.stack) (frs_in _)) hx fun h' t hf' _ _ up => ⟨ea, cls, H, rfl, Fly.made I O hx hos hg hf' up, q⟩
end
/-- what of the text an own error class must have to be raised -/
structure Err (K : PySem.W.Frag) (mg : Str → Option Value) (x : Str) (C : Addr) : Prop where
  own : ∀ h : Heap, K.In h → ∃ bm newId B initId, OwnCls x C bm newId mg h ∧ ExcBaseFacts B newId initId bm
end L2

namespace L3
open PySem
/-! ### values without the heap -/
inductive D where
  | non | bl (b : Bool) | int (i : Int) | str (x : Str) | tup (ds : List D) | lst (ds : List D)
/-- what comes: a value, an error of that class, or nothing is said -/
inductive Res (α : Type) where
  | ok (a : α) | err (c : Str) | no
noncomputable def Res.bind {α β : Type} (x : Res α) (f : α → Res β) : Res β := match x with
  | .ok a => f a
  | .err c => .err c
  | .no => .no
/-- a name's slot: nothing is known, a value, a list of one's own (that may be changed), an error of that class -/
inductive Sl where
  | un | val (d : D) | own (ds : List D) | exc (c : Str) | tab (T : List (Str × Str))
noncomputable abbrev Rho := List Sl
/-- what a def hands back: a value; a new list -/
inductive Rt where
  | v (d : D) | f (ds : List D)
noncomputable def Rt.d : Rt → D
  | .v d => d
  | .f ds => .lst ds
inductive Fl where
  | nx (ρ : Rho) | ret (r : Rt) | brk (ρ : Rho) | ctn (ρ : Rho)
noncomputable abbrev Ev := Rho → Res D
noncomputable abbrev Fv := Rho → Res (List D)
noncomputable abbrev Tv := Rho → Res Bool
noncomputable abbrev Sv := Rho → Res Fl
noncomputable abbrev Mir := List D → Res Rt
/-! equality as == says it -/
mutual
noncomputable def eqD : D → D → Bool
  | .non, .non => true
  | .bl a, .bl b => a == b
  | .bl a, .int b => (if a then 1 else 0) == b
  | .int a, .bl b => a == (if b then 1 else 0)
  | .int a, .int b => a == b
  | .str a, .str b => a == b
  | .tup ds, .tup es => eqDs ds es
  | .lst ds, .lst es => eqDs ds es
  | _, _ => false
noncomputable def eqDs : List D → List D → Bool
  | [], [] => true
  | d :: ds, e :: es => eqD d e && eqDs ds es
  | _, _ => false
end
mutual
noncomputable def dep : D → Nat
  | .tup ds => depS ds + 1
  | .lst ds => depS ds + 1
  | _ => 0
noncomputable def depS : List D → Nat
  | [] => 0
  | d :: ds => max (dep d) (depS ds)
end
mutual
/-- no list in it -/
noncomputable def noL : D → Bool
  | .tup ds => noLs ds
  | .lst _ => false
  | _ => true
noncomputable def noLs : List D → Bool
  | [] => true
  | d :: ds => noL d && noLs ds
end
theorem dep_mem : ∀ {ds : List D} {d : D}, d ∈ ds → dep d ≤ depS ds
  | e :: ds, d, h => by
    rw [depS]
    rcases List.mem_cons.mp h with rfl | h
    · exact Nat.le_max_left ..
    · exact Nat.le_trans (dep_mem h) (Nat.le_max_right ..)
theorem noLs_iff : ∀ {ds : List D}, noLs ds = true ↔ ∀ d ∈ ds, noL d = true
  | [] => by simp [noLs]
  | d :: ds => by rw [noLs, Bool.and_eq_true, noLs_iff]; simp
theorem eqDs_iff : ∀ (ds es : List D), eqDs ds es = ((List.range (min ds.length es.length)).all (fun j => eqD (ds.getD j .non) (es.getD j .non)) && ds.length == es.length)
  | [], [] => rfl
  | [], e :: es => by simp [eqDs]
  | d :: ds, [] => by simp [eqDs]
  | d :: ds, e :: es => by
    rw [eqDs, eqDs_iff ds es]
    have h : min (d :: ds).length (e :: es).length = min ds.length es.length + 1 := by simp only [List.length_cons]; omega
    rw [h, List.range_succ_eq_map]
    simp [List.all_map, Function.comp_def, Bool.and_assoc]
mutual
theorem eqD_refl : ∀ d : D, eqD d d = true
  | .non => rfl
  | .bl b => by simp [eqD]
  | .int i => by simp [eqD]
  | .str x => by simp [eqD]
  | .tup ds => by rw [eqD]; exact eqDs_refl ds
  | .lst ds => by rw [eqD]; exact eqDs_refl ds
theorem eqDs_refl : ∀ ds : List D, eqDs ds ds = true
  | [] => rfl
  | d :: ds => by rw [eqDs, eqD_refl d, eqDs_refl ds]; rfl
end
/-! ### numbers -/
/-- bits, at least -/
noncomputable def nb (i : Int) : Nat := i.natAbs.log2 + 1
theorem lt_nb (i : Int) : i.natAbs < 2 ^ nb i := Nat.lt_log2_self
theorem nb_le {i : Int} {m : Nat} (h : i.natAbs < 2 ^ m) (hm : 0 < m) : nb i ≤ m := by
  unfold nb
  by_cases h0 : i.natAbs = 0
  · rw [h0]; exact hm
  · exact (Nat.log2_lt h0).mpr h
noncomputable def okMul (i j : Int) : Bool := (decide (-(2 ^ 64) < i) && decide (i < 2 ^ 64)) || (decide (-(2 ^ 64) < j) && decide (j < 2 ^ 64)) || decide (nb i + nb j ≤ 134217728)
noncomputable def okDiv (j : Int) : Bool := decide (j ≠ 0) && decide (nb j ≤ 9000)
noncomputable def okPow (i j : Int) : Bool := decide (0 ≤ j) && decide ((nb i : Int) * j ≤ 2 ^ 27)
/-! ### operations -/
noncomputable abbrev Op2 := D → D → Res D
noncomputable def oAdd : Op2
  | .int i, .int j => .ok (.int (i + j))
  | .tup a, .tup b => if a.length + b.length ≤ 16777216 then .ok (.tup (a ++ b)) else .no
  | _, _ => .no
noncomputable def oAddI : Op2
  | .int i, .int j => .ok (.int (i + j))
  | _, _ => .no
noncomputable def oSub : Op2
  | .int i, .int j => .ok (.int (i - j))
  | _, _ => .no
noncomputable def oMul : Op2
  | .int i, .int j => if okMul i j = true then .ok (.int (i * j)) else .no
  | _, _ => .no
noncomputable def oDiv : Op2
  | .int i, .int j => if okDiv j = true then .ok (.int (i.fdiv j)) else .no
  | _, _ => .no
noncomputable def oMod : Op2
  | .int i, .int j => if j ≠ 0 then .ok (.int (i.fmod j)) else .no
  | _, _ => .no
noncomputable def oPow : Op2
  | .int i, .int j => if okPow i j = true then .ok (.int (i ^ j.toNat)) else .no
  | _, _ => .no
noncomputable def oEq (x y : D) : Res D := if dep x ≤ 50 then .ok (.bl (eqD x y)) else .no
noncomputable def oNe (x y : D) : Res D := if dep x ≤ 50 then .ok (.bl (!eqD x y)) else .no
noncomputable def oLt : Op2
  | .int i, .int j => .ok (.bl (decide (i < j)))
  | _, _ => .no
noncomputable def oLe : Op2
  | .int i, .int j => .ok (.bl (decide (i ≤ j)))
  | _, _ => .no
noncomputable def oGt : Op2
  | .int i, .int j => .ok (.bl (decide (j < i)))
  | _, _ => .no
noncomputable def oGe : Op2
  | .int i, .int j => .ok (.bl (decide (j ≤ i)))
  | _, _ => .no
/-- item at i, counted from behind where i is below 0 -/
noncomputable def atD (ds : List D) (i : Int) : Option D := if 0 ≤ i then ds[i.toNat]? else if 0 ≤ (ds.length : Int) + i then ds[((ds.length : Int) + i).toNat]? else none
noncomputable def ofO {α : Type} : Option α → Res α
  | some a => .ok a
  | none => .no
noncomputable def oIx : Op2
  | .tup ds, .int i => ofO (atD ds i)
  | .lst ds, .int i => ofO (atD ds i)
  | _, _ => .no
noncomputable def oIn : Op2
  | d, .lst ds => if depS ds ≤ 50 then .ok (.bl (ds.any fun e => eqD e d)) else .no
  | d, .tup ds => if depS ds ≤ 50 then .ok (.bl (ds.any fun e => eqD e d)) else .no
  | _, _ => .no
noncomputable def oNeg : D → Res D
  | .int i => .ok (.int (-i))
  | _ => .no
noncomputable def oNot : D → Res D
  | .bl b => .ok (.bl (!b))
  | _ => .no
/-! ### expressions -/
noncomputable def eVar (i : Nat) (ρ : Rho) : Res D := match ρ[i]? with
  | some (.val d) => .ok d
  | _ => .no
noncomputable def eC (d : D) (_ρ : Rho) : Res D := .ok d
noncomputable def eOp (o : Op2) (a b : Ev) (ρ : Rho) : Res D := (a ρ).bind fun x => (b ρ).bind fun y => o x y
noncomputable def eUn (o : D → Res D) (a : Ev) (ρ : Rho) : Res D := (a ρ).bind o
noncomputable def eAnd (a b : Ev) (ρ : Rho) : Res D := (a ρ).bind fun x => match x with
  | .bl c => if c = true then b ρ else .ok (.bl false)
  | _ => .no
noncomputable def eOr (a b : Ev) (ρ : Rho) : Res D := (a ρ).bind fun x => match x with
  | .bl c => if c = true then .ok (.bl true) else b ρ
  | _ => .no
noncomputable def eIf (t : Tv) (a b : Ev) (ρ : Rho) : Res D := (t ρ).bind fun c => if c = true then a ρ else b ρ
noncomputable def aNil (_ρ : Rho) : Res (List D) := .ok []
noncomputable def aCons (e : Ev) (r : Fv) (ρ : Rho) : Res (List D) := (e ρ).bind fun d => (r ρ).bind fun ds => .ok (d :: ds)
noncomputable def eTup (a : Fv) (ρ : Rho) : Res D := (a ρ).bind fun ds => if ds.length ≤ 16777216 then .ok (.tup ds) else .no
noncomputable def eCall (m : Mir) (a : Fv) (ρ : Rho) : Res D := (a ρ).bind fun ds => (m ds).bind fun r => .ok r.d
/-- len -/
noncomputable def bLen : List D → Res D
  | [.lst ds] => .ok (.int ds.length)
  | [.tup ds] => .ok (.int ds.length)
  | _ => .no
noncomputable def bAbs : List D → Res D
  | [.int i] => .ok (.int (if i < 0 then -i else i))
  | _ => .no
noncomputable def bMin : List D → Res D
  | [.int i, .int j] => .ok (.int (if j < i then j else i))
  | _ => .no
noncomputable def eB (b : List D → Res D) (a : Fv) (ρ : Rho) : Res D := (a ρ).bind b
/-- the kinds' names -/
noncomputable def tyN : D → String
  | .non => "NoneType" | .bl _ => "bool" | .int _ => "int" | .str _ => "str" | .tup _ => "tuple" | .lst _ => "list"
noncomputable def isT (T : String) (d : D) : Bool := tyN d == T || (T == "int" && tyN d == "bool")
noncomputable def eIsT (T : String) (a : Ev) (ρ : Rho) : Res D := (a ρ).bind fun d => .ok (.bl (isT T d))
noncomputable def isNon : D → Bool
  | .non => true
  | _ => false
/-- lists of one's own, seen as values -/
noncomputable def Sl.frz : Sl → Sl
  | .own ds => .val (.lst ds)
  | s => s
noncomputable def eFrz (e : Ev) (ρ : Rho) : Res D := (e (ρ.map Sl.frz)).bind fun d => if noL d = true then .ok d else .no
/-- new lists -/
noncomputable def fLst (a : Fv) (ρ : Rho) : Res (List D) := (a ρ).bind fun ds => if ds.length ≤ 16777216 then .ok ds else .no
noncomputable def fCall (m : Mir) (a : Fv) (ρ : Rho) : Res (List D) := (a ρ).bind fun ds => (m ds).bind fun r => match r with
  | .f ds => .ok ds
  | .v _ => .no
noncomputable def fList (a : Fv) (ρ : Rho) : Res (List D) := (a ρ).bind fun ds => match ds with
  | [.lst ds] => .ok ds
  | [.tup ds] => .ok ds
  | _ => .no
noncomputable def fCat (a b : Ev) (ρ : Rho) : Res (List D) := (a ρ).bind fun x => (b ρ).bind fun y => match x, y with
  | .lst ds, .lst es => if ds.length + es.length ≤ 16777216 then .ok (ds ++ es) else .no
  | _, _ => .no
noncomputable def eF (f : Fv) (ρ : Rho) : Res D := (f ρ).bind fun ds => .ok (.lst ds)
noncomputable def fFrz (f : Fv) (ρ : Rho) : Res (List D) := (f (ρ.map Sl.frz)).bind fun ds => if noLs ds = true then .ok ds else .no
/-! slices with step 1 -/
noncomputable def cut (n : Nat) (i : Option Int) (d : Nat) : Nat := match i with
  | none => d
  | some i => if 0 ≤ i then min i.toNat n else ((n : Int) + i).toNat
noncomputable def sliceD (ds : List D) (lo hi : Option Int) : List D := (ds.drop (cut ds.length lo 0)).take (cut ds.length hi ds.length - cut ds.length lo 0)
noncomputable abbrev Ov := Rho → Res (Option Int)
noncomputable def oN (_ρ : Rho) : Res (Option Int) := .ok none
noncomputable def oS (e : Ev) (ρ : Rho) : Res (Option Int) := (e ρ).bind fun d => match d with
  | .int i => .ok (some i)
  | _ => .no
noncomputable def fSl (a : Ev) (lo hi : Ov) (ρ : Rho) : Res (List D) := (a ρ).bind fun x => (lo ρ).bind fun l => (hi ρ).bind fun h => match x with
  | .lst ds => .ok (sliceD ds l h)
  | _ => .no
noncomputable def eSlT (a : Ev) (lo hi : Ov) (ρ : Rho) : Res D := (a ρ).bind fun x => (lo ρ).bind fun l => (hi ρ).bind fun h => match x with
  | .tup ds => if (sliceD ds l h).length < ds.length then .ok (.tup (sliceD ds l h)) else .no
  | _ => .no
/-! ### tests -/
noncomputable def tVal (e : Ev) (ρ : Rho) : Res Bool := (e ρ).bind fun d => match d with
  | .bl b => .ok b
  | _ => .no
/-- own lists seen as values -/
noncomputable def tFrzB (t : Tv) (ρ : Rho) : Res Bool := t (ρ.map Sl.frz)
noncomputable def tNotB (t : Tv) (ρ : Rho) : Res Bool := (t ρ).bind fun b => .ok (!b)
noncomputable def tAndB (t u : Tv) (ρ : Rho) : Res Bool := (t ρ).bind fun b => if b = true then u ρ else .ok false
noncomputable def tOrB (t u : Tv) (ρ : Rho) : Res Bool := (t ρ).bind fun b => if b = true then .ok true else u ρ
/-! ### statements -/
noncomputable def sNext (ρ : Rho) : Res Fl := .ok (.nx ρ)
noncomputable def sSeq (a b : Sv) (ρ : Rho) : Res Fl := (a ρ).bind fun f => match f with
  | .nx ρ' => b ρ'
  | f => .ok f
noncomputable def sIf (t : Tv) (a b : Sv) (ρ : Rho) : Res Fl := (t ρ).bind fun c => if c = true then a ρ else b ρ
noncomputable def sSet (i : Nat) (e : Ev) (ρ : Rho) : Res Fl := (e ρ).bind fun d => .ok (.nx (ρ.set i (.val d)))
noncomputable def sOwn (i : Nat) (f : Fv) (ρ : Rho) : Res Fl := (f ρ).bind fun ds => .ok (.nx (ρ.set i (.own ds)))
noncomputable def sDrop (e : Ev) (ρ : Rho) : Res Fl := (e ρ).bind fun _ => .ok (.nx ρ)
noncomputable def sRet (e : Ev) (ρ : Rho) : Res Fl := (e (ρ.map Sl.frz)).bind fun d => .ok (.ret (.v d))
noncomputable def sRetF (f : Fv) (ρ : Rho) : Res Fl := (f (ρ.map Sl.frz)).bind fun ds => .ok (.ret (.f ds))
noncomputable def sRetOwn (i : Nat) (ρ : Rho) : Res Fl := match ρ[i]? with
  | some (.own ds) => .ok (.ret (.f ds))
  | _ => .no
noncomputable def sRetN (_ρ : Rho) : Res Fl := .ok (.ret (.v .non))
noncomputable def sRaise (c : Str) (a : Fv) (ρ : Rho) : Res Fl := (a ρ).bind fun ds => if ds.length ≤ 16777216 then .err c else .no
noncomputable def sNo (_ρ : Rho) : Res Fl := .no
/-- x.append(e), x a list of one's own -/
noncomputable def sApp (i : Nat) (e : Ev) (ρ : Rho) : Res Fl := match ρ[i]? with
  | some (.own ds) => (e ρ).bind fun d => if ds.length < 16777216 then .ok (.nx (ρ.set i (.own (ds ++ [d])))) else .no
  | _ => .no
/-- x[k] = e -/
noncomputable def sPut (i : Nat) (k e : Ev) (ρ : Rho) : Res Fl := (e ρ).bind fun d => match ρ[i]? with
  | some (.own ds) => (k ρ).bind fun j => match j with
    | .int j => if 0 ≤ j ∧ j < ds.length then .ok (.nx (ρ.set i (.own (ds.set j.toNat d)))) else if -(ds.length : Int) ≤ j ∧ j < 0 then .ok (.nx (ρ.set i (.own (ds.set (j + ds.length).toNat d)))) else .no
    | _ => .no
  | _ => .no
noncomputable def sAug (i : Nat) (o : Op2) (e : Ev) (ρ : Rho) : Res Fl := match ρ[i]? with
  | some (.val x) => (e ρ).bind fun y => (o x y).bind fun d => .ok (.nx (ρ.set i (.val d)))
  | _ => .no
/-- own lists become values -/
noncomputable def sFrz (s : Sv) (ρ : Rho) : Res Fl := s (ρ.map Sl.frz)
/-! ### errors that are caught -/
noncomputable def noErr {α : Type} : Res α → Res α
  | .err _ => .no
  | r => r
/-- for: the items, the target, the body -/
noncomputable abbrev Gv := D → Rho → Res Rho
noncomputable def gName (i : Nat) (d : D) (ρ : Rho) : Res Rho := .ok (ρ.set i (.val d))
noncomputable def gTup (gs : List D → Rho → Res Rho) (d : D) (ρ : Rho) : Res Rho := match d with
  | .tup ds => gs ds ρ
  | _ => .no
noncomputable def gNil (ds : List D) (ρ : Rho) : Res Rho := match ds with
  | [] => .ok ρ
  | _ => .no
noncomputable def gCons (g : Gv) (r : List D → Rho → Res Rho) (ds : List D) (ρ : Rho) : Res Rho := match ds with
  | d :: ds => (g d ρ).bind fun ρ' => r ds ρ'
  | [] => .no
noncomputable def sUnp (g : Gv) (f : Ev) (ρ : Rho) : Res Fl := (f ρ).bind fun d => (g d ρ).bind fun ρ' => .ok (.nx ρ')
noncomputable def loop (g : Gv) (b : Sv) : List D → Rho → Res Fl
  | [], ρ => .ok (.nx ρ)
  | d :: ds, ρ => (g d ρ).bind fun ρ1 => (b ρ1).bind fun f => match f with
    | .nx ρ2 => loop g b ds ρ2
    | .ctn ρ2 => loop g b ds ρ2
    | .brk ρ2 => .ok (.nx ρ2)
    | .ret r => .ok (.ret r)
noncomputable def sFor (it : Fv) (g : Gv) (b : Sv) (ρ : Rho) : Res Fl := (it ρ).bind fun ds => loop g b ds ρ
noncomputable def iSeq (e : Ev) (ρ : Rho) : Res (List D) := (e ρ).bind fun d => match d with
  | .lst ds => .ok ds
  | .tup ds => .ok ds
  | _ => .no
noncomputable def rng (lo : Int) (n : Nat) (c : Int) : List D := (List.range n).map fun (i : Nat) => D.int (lo + (i : Int) * c)
noncomputable def iRng1 (a : Fv) (ρ : Rho) : Res (List D) := (a ρ).bind fun ds => match ds with
  | [.int j] => if -(2 ^ 62) ≤ j ∧ j < 2 ^ 62 then .ok (rng 0 j.toNat 1) else .no
  | _ => .no
/-- while: n turns at most -/
noncomputable def wh (t : Tv) (b : Sv) : Nat → Rho → Res Fl
  | 0, _ => .no
  | n + 1, ρ => (t ρ).bind fun c => if c = true then (b ρ).bind fun f => match f with
      | .nx ρ2 => wh t b n ρ2
      | .ctn ρ2 => wh t b n ρ2
      | .brk ρ2 => .ok (.nx ρ2)
      | .ret r => .ok (.ret r)
    else .ok (.nx ρ)
open Classical in
noncomputable def sWhile (t : Tv) (b : Sv) (ρ : Rho) : Res Fl := if h : ∃ n, wh t b n ρ ≠ .no then wh t b h.choose ρ else .no
theorem wh_mono {t : Tv} {b : Sv} : ∀ {n : Nat} {ρ : Rho} {k : Nat}, wh t b n ρ ≠ .no → n ≤ k → wh t b k ρ = wh t b n ρ
  | 0, ρ, k, h, _ => absurd rfl h
  | n + 1, ρ, 0, h, l => absurd l (by omega)
  | n + 1, ρ, k + 1, h, l => by
    rw [wh, wh]
    rw [wh] at h
    cases ht : t ρ with
    | no => rfl
    | err c => rfl
    | ok c =>
      rw [ht] at h
      simp only [Res.bind] at h ⊢
      cases c with
      | false => rfl
      | true =>
        simp only [if_true] at h ⊢
        cases hb : b ρ with
        | no => rfl
        | err c => rfl
        | ok f =>
          rw [hb] at h
          cases f with
          | nx ρ2 => exact wh_mono h (by omega)
          | ctn ρ2 => exact wh_mono h (by omega)
          | brk ρ2 => rfl
          | ret r => rfl
theorem sWhile_of {t : Tv} {b : Sv} {n : Nat} {ρ : Rho} (h : wh t b n ρ ≠ .no) : sWhile t b ρ = wh t b n ρ := by
  have hx : ∃ n, wh t b n ρ ≠ .no := ⟨n, h⟩
  unfold sWhile
  rw [dif_pos hx]
  rcases Nat.le_total n hx.choose with l | l
  · exact wh_mono h l
  · exact (wh_mono hx.choose_spec l).symm
theorem sWhile_some {t : Tv} {b : Sv} {ρ : Rho} (h : sWhile t b ρ ≠ .no) : ∃ n, sWhile t b ρ = wh t b n ρ := by
  unfold sWhile at h ⊢
  split
  · exact ⟨_, rfl⟩
  · rename_i hx; rw [dif_neg hx] at h; exact absurd rfl h
/-- one turn -/
theorem sWhile_eq {t : Tv} {b : Sv} {ρ : Rho} : sWhile t b ρ = ((t ρ).bind fun c => if c = true then (b ρ).bind fun f => match f with
      | .nx ρ2 => sWhile t b ρ2
      | .ctn ρ2 => sWhile t b ρ2
      | .brk ρ2 => .ok (.nx ρ2)
      | .ret r => .ok (.ret r)
    else .ok (.nx ρ)) := by
  have key : ∀ n, wh t b (n + 1) ρ ≠ .no → wh t b (n + 1) ρ = ((t ρ).bind fun c => if c = true then (b ρ).bind fun f => match f with
      | .nx ρ2 => sWhile t b ρ2
      | .ctn ρ2 => sWhile t b ρ2
      | .brk ρ2 => .ok (.nx ρ2)
      | .ret r => .ok (.ret r)
    else .ok (.nx ρ)) := by
    intro n h
    rw [wh] at h ⊢
    cases ht : t ρ with
    | no => rfl
    | err c => rfl
    | ok c =>
      rw [ht] at h
      simp only [Res.bind] at h ⊢
      cases c with
      | false => rfl
      | true =>
        simp only [if_true] at h ⊢
        cases hb : b ρ with
        | no => rfl
        | err c => rfl
        | ok f =>
          rw [hb] at h
          cases f with
          | nx ρ2 => exact (sWhile_of h).symm
          | ctn ρ2 => exact (sWhile_of h).symm
          | brk ρ2 => rfl
          | ret r => rfl
  by_cases h : sWhile t b ρ = .no
  · rw [h]
    cases ht : t ρ with
    | no => rfl
    | err c =>
      exfalso
      have q : wh t b 1 ρ = .err c := by rw [wh, ht]; rfl
      have := sWhile_of (t := t) (b := b) (ρ := ρ) (n := 1) (by rw [q]; exact fun z => by cases z)
      rw [h, q] at this; cases this
    | ok c =>
      simp only [Res.bind]
      cases c with
      | false =>
        exfalso
        have q : wh t b 1 ρ = .ok (.nx ρ) := by rw [wh, ht]; rfl
        have := sWhile_of (t := t) (b := b) (ρ := ρ) (n := 1) (by rw [q]; exact fun z => by cases z)
        rw [h, q] at this; cases this
      | true =>
        simp only [if_true]
        cases hb : b ρ with
        | no => rfl
        | err c =>
          exfalso
          have q : wh t b 1 ρ = .err c := by rw [wh, ht]; simp [Res.bind, hb]
          have := sWhile_of (t := t) (b := b) (ρ := ρ) (n := 1) (by rw [q]; exact fun z => by cases z)
          rw [h, q] at this; cases this
        | ok f =>
          have again : ∀ ρ2, (f = .nx ρ2 ∨ f = .ctn ρ2) → sWhile t b ρ2 = .no := by
            intro ρ2 hf
            by_cases h2 : sWhile t b ρ2 = .no
            · exact h2
            · exfalso
              obtain ⟨n, e⟩ := sWhile_some h2
              have q : wh t b (n + 1) ρ = wh t b n ρ2 := by
                rw [wh, ht]
                simp only [Res.bind, if_true, hb]
                rcases hf with rfl | rfl <;> rfl
              have h3 : wh t b (n + 1) ρ ≠ .no := by rw [q, ← e]; exact h2
              have := sWhile_of h3
              rw [h] at this
              exact h3 this.symm
          cases f with
          | nx ρ2 => exact (again ρ2 (.inl rfl)).symm
          | ctn ρ2 => exact (again ρ2 (.inr rfl)).symm
          | brk ρ2 =>
            exfalso
            have q : wh t b 1 ρ = .ok (.nx ρ2) := by rw [wh, ht]; simp [Res.bind, hb]
            have := sWhile_of (t := t) (b := b) (ρ := ρ) (n := 1) (by rw [q]; exact fun z => by cases z)
            rw [h, q] at this; cases this
          | ret r =>
            exfalso
            have q : wh t b 1 ρ = .ok (.ret r) := by rw [wh, ht]; simp [Res.bind, hb]
            have := sWhile_of (t := t) (b := b) (ρ := ρ) (n := 1) (by rw [q]; exact fun z => by cases z)
            rw [h, q] at this; cases this
  · obtain ⟨n, e⟩ := sWhile_some h
    cases n with
    | zero => rw [e] at h; exact absurd rfl h
    | succ n => rw [e]; exact key n (by rw [← e]; exact h)
noncomputable def fRep (f : Fv) (g : Ev) (ρ : Rho) : Res (List D) := (f ρ).bind fun ds => (g ρ).bind fun d => match d with
  | .int k => if 0 ≤ k ∧ k < 2 ^ 62 ∧ ds.length * k.toNat ≤ 16777216 then .ok (List.replicate k.toNat ds).flatten else .no
  | _ => .no
/-! ### comprehensions: one name more in each turn -/
noncomputable def tTrue (_ρ : Rho) : Res Bool := .ok true
noncomputable def compD (t : Tv) (f : Ev) (ρ : Rho) : List D → Res (List D)
  | [] => .ok []
  | d :: ds => (noErr (t (ρ ++ [.val d]))).bind fun c => if c = true then (noErr (f (ρ ++ [.val d]))).bind fun e => (compD t f ρ ds).bind fun es => .ok (e :: es) else compD t f ρ ds
noncomputable def fComp (it : Fv) (t : Tv) (f : Ev) (ρ : Rho) : Res (List D) := (it ρ).bind fun ds => if ds.length ≤ 16777215 then compD t f ρ ds else .no
/-! ### defs -/
/-- a def of n names: its body at its arguments -/
noncomputable def start (n : Nat) (ds : List D) : Rho := ds.map Sl.val ++ List.replicate (n - ds.length) .un
noncomputable def fin : Fl → Res Rt
  | .nx _ => .ok (.v .non)
  | .ret r => .ok r
  | .brk _ => .no
  | .ctn _ => .no
noncomputable def fn (p n : Nat) (b : Sv) (ds : List D) : Res Rt := if ds.length = p then (b (start n ds)).bind fin else .no
/-! ### zip, enumerate; a comprehension with two names -/
noncomputable def seqO : D → Option (List D)
  | .lst ds => some ds
  | .tup ds => some ds
  | _ => none
noncomputable def pairD : List D → List D → List D
  | a :: r, b :: q => .tup [a, b] :: pairD r q
  | _, _ => []
noncomputable def iZip (a : Fv) (ρ : Rho) : Res (List D) := (a ρ).bind fun ds => match ds with
  | [x, y] => match seqO x, seqO y with
    | some xs, some ys => .ok (pairD xs ys)
    | _, _ => .no
  | _ => .no
noncomputable def comp2D (f : Ev) (ρ : Rho) : List D → Res (List D)
  | [] => .ok []
  | .tup [a, b] :: ds => (noErr (f (ρ ++ [.val a, .val b]))).bind fun e => (comp2D f ρ ds).bind fun es => .ok (e :: es)
  | _ :: _ => .no
noncomputable def fComp2 (it : Fv) (f : Ev) (ρ : Rho) : Res (List D) := (it ρ).bind fun ds => if ds.length ≤ 16777215 then comp2D f ρ ds else .no
noncomputable def fmtD : D → Option Str
  | .str x => some x
  | .int i => if i.natAbs.log2 < 1920 then some (toString i) else none
  | _ => none
noncomputable def catD : Str → List D → Option Str
  | a, [] => some a
  | a, d :: r => match fmtD d with
    | some x => if x.length ≤ sizeLine ∧ (a ++ x).length ≤ sizeLine then catD (a ++ x) r else none
    | none => none
/-! ### sum -/
noncomputable def intsD : List D → Option (List Int)
  | [] => some []
  | .int i :: ds => match intsD ds with
    | some ns => some (i :: ns)
    | none => none
  | _ :: _ => none
noncomputable def bSum : List D → Res D
  | [.lst ds] => (match intsD ds with
    | some ns => .ok (.int ns.sum)
    | none => .no)
  | [.tup ds] => (match intsD ds with
    | some ns => .ok (.int ns.sum)
    | none => .no)
  | _ => .no
noncomputable def chO : Option Nat → Res D
  | some c => .ok (.str ⟨#[c]⟩)
  | none => .no
noncomputable def slS (l u : Option Int) : D → Res D
  | .str x => if x.length ≤ sizeLine then .ok (.str (Txt.slice x l u)) else .no
  | _ => .no
noncomputable def oTabNot (T : List (Str × Str)) : D → Res D
  | .str x => .ok (.bl (!(T.lookup x).isSome))
  | _ => .no
noncomputable def tabO : Option Str → Res D
  | some y => .ok (.str y)
  | none => .no
noncomputable def oTabAt (T : List (Str × Str)) : D → Res D
  | .str x => tabO (T.lookup x)
  | _ => .no
end L3

namespace L3
open PySem
end L3

namespace L3
open PySem
/-! ### places by their keys, the pure part -/
noncomputable def IsRank (kz : List Int) (π : List Nat) : Prop := π.Perm (List.range kz.length) ∧ π.Pairwise (fun i j => kz.getD i 0 ≤ kz.getD j 0)
noncomputable def keyD (b : Int) : D → Res Int
  | .tup [.int t, .int d] => if okDiv d && okMul t (b.fdiv d) then .ok (t * b.fdiv d) else .no
  | _ => .no
noncomputable def keysD (b : Int) : List D → Res (List Int)
  | [] => .ok []
  | d :: r => (keyD b d).bind fun k => (keysD b r).bind fun ks => .ok (k :: ks)
noncomputable def natsD (π : List Nat) : List D := π.map fun i : Nat => D.int (i : Int)
theorem keyD_ok {b k : Int} {d : D} (h : keyD b d = .ok k) : ∃ t c, d = .tup [.int t, .int c] ∧ okDiv c = true ∧ okMul t (b.fdiv c) = true ∧ k = t * b.fdiv c := by
  unfold keyD at h
  split at h
  · rename_i t c
    split at h
    · rename_i hc
      rw [Bool.and_eq_true] at hc
      cases h
      exact ⟨t, c, rfl, hc.1, hc.2, rfl⟩
    · cases h
  · cases h
theorem keysD_ok {b : Int} : ∀ {rows : List D} {kz : List Int}, keysD b rows = .ok kz → kz.length = rows.length ∧ ∀ (j : Nat) (k : Int), kz[j]? = some k → ∃ d, rows[j]? = some d ∧ keyD b d = .ok k
  | [], kz, h => by cases h; exact ⟨rfl, fun j k z => by simp at z⟩
  | d :: r, kz, h => by
    unfold keysD at h
    cases e : keyD b d with
    | no => rw [e] at h; cases h
    | err c => rw [e] at h; cases h
    | ok k0 =>
      rw [e] at h
      have h' : (keysD b r).bind (fun ks => Res.ok (k0 :: ks)) = .ok kz := h
      cases e2 : keysD b r with
      | no => rw [e2] at h'; cases h'
      | err c => rw [e2] at h'; cases h'
      | ok ks =>
        rw [e2] at h'
        cases h'
        obtain ⟨h1, h2⟩ := keysD_ok e2
        refine ⟨by rw [List.length_cons, List.length_cons, h1], fun j k z => ?_⟩
        cases j with
        | zero => simp at z; subst z; exact ⟨d, rfl, e⟩
        | succ j => exact h2 j k (by simpa using z)
noncomputable def keysAt (ρ : Rho) : Res (List Int) := match ρ[0]?, ρ[1]? with
  | some (Sl.val (.lst rows)), some (Sl.val (.int b)) => if rows.length < 64 then keysD b rows else .no
  | _, _ => .no
noncomputable def kRank (sa sb : Sv) (ds : List D) : Res (List Int) := if ds.length = 1 then (match sa (L3.start 3 ds) with
  | .ok (.nx ρ) => (match sb ρ with
    | .ok (.nx ρ') => keysAt ρ'
    | _ => .no)
  | _ => .no) else .no
theorem keysD_ne {b : Int} : ∀ {rows : List D} {c : Str}, keysD b rows ≠ .err c
  | [], c, h => by cases h
  | d :: r, c, h => by
    unfold keysD at h
    have k0 : ∀ c, keyD b d ≠ .err c := fun c z => by
      unfold keyD at z
      split at z
      · split at z <;> cases z
      · cases z
    cases e : keyD b d with
    | no => rw [e] at h; cases h
    | err c' => exact k0 _ e
    | ok k =>
      rw [e] at h
      have h' : (keysD b r).bind (fun ks => Res.ok (k :: ks)) = .err c := h
      cases e2 : keysD b r with
      | no => rw [e2] at h'; cases h'
      | err c' => exact keysD_ne e2
      | ok ks => rw [e2] at h'; cases h'
theorem kr_ne {sa sb : Sv} (ds : List D) (c : Str) : kRank sa sb ds ≠ .err c := fun h => by
  unfold kRank keysAt at h
  split at h
  · split at h
    · split at h
      · split at h
        · split at h
          · exact keysD_ne h
          · cases h
        · cases h
      · cases h
    · cases h
  · cases h
theorem kr_one {sa sb : Sv} (ds : List D) (h : kRank sa sb ds ≠ .no) : ds.length = 1 := by
  unfold kRank at h
  split at h
  · assumption
  · exact absurd rfl h
open Classical in
noncomputable def allRank (kz : List Int) (F : List Nat → Res Fl) : Res Fl := if h : ∃ x, ∀ π, IsRank kz π → F π = x then h.choose else .no
theorem allRank_at {kz : List Int} {F : List Nat → Res Fl} {π : List Nat} (h : allRank kz F ≠ .no) (hπ : IsRank kz π) : F π = allRank kz F := by
  unfold allRank at h ⊢
  split at h
  · rename_i z; rw [dif_pos z]; exact z.choose_spec π hπ
  · exact absurd rfl h
theorem allRank_of {kz : List Int} {F : List Nat → Res Fl} {x : Res Fl} {π : List Nat} (hπ : IsRank kz π) (h : ∀ π, IsRank kz π → F π = x) : allRank kz F = x := by
  have z : ∃ x, ∀ π, IsRank kz π → F π = x := ⟨x, h⟩
  unfold allRank
  rw [dif_pos z, ← z.choose_spec π hπ]
  exact h π hπ
noncomputable def sRank (fs : Fv) (kf : List D → Res (List Int)) (g : Gv) (b r : Sv) : Sv := fun ρ => ((fs ρ).bind kf).bind fun kz => allRank kz fun π => sSeq (fun ρ => loop g b (natsD π) ρ) r ρ
end L3

namespace L3
open PySem
end L3

namespace L3
open PySem
/-! ### a def that tells a tuple: a value, a list as a value, a list of one's own -/
noncomputable abbrev Tri := D × List D × List D
noncomputable def triAt (i0 i1 i2 : Nat) (r : Res Fl) : Res Tri := match r with
  | .ok (.nx ρ) => (match ρ[i0]?, ρ[i1]?, ρ[i2]? with
    | some (.val d), some (.own es), some (.own fs) => if es.length ≤ 1000 ∧ fs.length ≤ 1000 ∧ i1 ≠ i2 then .ok (d, es, fs) else .no
    | _, _, _ => .no)
  | _ => .no
/-- its mirror: np parameters, nl names -/
noncomputable def kTri (np nl i0 i1 i2 : Nat) (sv : Sv) (ds : List D) : Res Tri := if ds.length = np then triAt i0 i1 i2 (sv (L3.start nl ds)) else .no
/-- x0, x1, x2 = f(..) -/
noncomputable def sTri (j0 j1 j2 : Nat) (fs : Fv) (kf : List D → Res Tri) : Sv := fun ρ => ((noErr (fs ρ)).bind kf).bind fun t => .ok (.nx (((ρ.set j0 (.val t.1)).set j1 (.val (.lst t.2.1))).set j2 (.own t.2.2)))
theorem triAt_ok {i0 i1 i2 : Nat} {r : Res Fl} {t : Tri} (h : triAt i0 i1 i2 r = .ok t) : ∃ ρ, r = .ok (.nx ρ) ∧ ρ[i0]? = some (.val t.1) ∧ ρ[i1]? = some (.own t.2.1) ∧ ρ[i2]? = some (.own t.2.2) ∧ i1 ≠ i2 := by
  unfold triAt at h
  split at h
  · rename_i ρ
    split at h
    · rename_i d es fs e0 e1 e2
      split at h
      · rename_i hz
        cases h
        exact ⟨ρ, rfl, e0, e1, e2, hz.2.2⟩
      · cases h
    · cases h
  · cases h
theorem triAt_ne {i0 i1 i2 : Nat} {r : Res Fl} {c : Str} : triAt i0 i1 i2 r ≠ .err c := fun h => by
  unfold triAt at h
  split at h
  · split at h
    · split at h <;> cases h
    · cases h
  · cases h
theorem kt_ne {np nl i0 i1 i2 : Nat} {sv : Sv} (ds : List D) (c : Str) : kTri np nl i0 i1 i2 sv ds ≠ .err c := fun h => by
  unfold kTri at h
  split at h
  · exact triAt_ne h
  · cases h
theorem kt_len {np nl i0 i1 i2 : Nat} {sv : Sv} (ds : List D) (h : kTri np nl i0 i1 i2 sv ds ≠ .no) : ds.length = np := by
  unfold kTri at h
  split at h
  · assumption
  · exact absurd rfl h
end L3

namespace Fq
/-! ### fractions as Rat: the mathematics -/
theorem gcd_step {a b : Int} (ha : 0 ≤ a) (hb : 0 < b) : Int.gcd b (a % b) = Int.gcd a b := by
  obtain ⟨m, rfl⟩ := Int.eq_ofNat_of_zero_le ha
  obtain ⟨n, rfl⟩ := Int.eq_ofNat_of_zero_le (Int.le_of_lt hb)
  show Nat.gcd n (m % n) = Nat.gcd m n
  rw [Nat.gcd_comm n (m % n), Nat.gcd_comm m n, Nat.gcd_rec n m]

noncomputable def dv (t b : Int) : Int := if b < 0 then -(Int.gcd t b : Int) else (Int.gcd t b : Int)
theorem gcd_pos {t b : Int} (hb : b ≠ 0) : 0 < (Int.gcd t b : Int) := by
  have h : Int.gcd t b ≠ 0 := fun h => hb (Int.gcd_eq_zero_iff.mp h).2
  omega
theorem dv_ne {t b : Int} (hb : b ≠ 0) : dv t b ≠ 0 := by
  have := gcd_pos (t := t) hb
  unfold dv; split <;> omega
theorem dv_dvd_l (t b : Int) : dv t b ∣ t := by
  unfold dv; split
  · exact Int.neg_dvd.mpr (Int.gcd_dvd_left ..)
  · exact Int.gcd_dvd_left ..
theorem dv_dvd_r (t b : Int) : dv t b ∣ b := by
  unfold dv; split
  · exact Int.neg_dvd.mpr (Int.gcd_dvd_right ..)
  · exact Int.gcd_dvd_right ..
theorem fdiv_of_dvd {t d : Int} (h : d ∣ t) : t.fdiv d = t / d := by
  rw [Int.fdiv_eq_ediv]
  simp [h]
theorem num_eq {t b : Int} (hb : b ≠ 0) : t.fdiv (dv t b) = (Rat.divInt t b).num := by
  rw [fdiv_of_dvd (dv_dvd_l t b), Rat.num_divInt, Int.gcd_comm b t]
  unfold dv
  rcases Int.lt_trichotomy b 0 with h | h | h
  · rw [if_pos h, Int.sign_eq_neg_one_of_neg h, Int.ediv_neg]
    have : (-1 : Int) * t = -t := by omega
    rw [this, Int.neg_ediv_of_dvd (Int.gcd_dvd_left ..)]
  · exact absurd h hb
  · rw [if_neg (by omega), Int.sign_eq_one_of_pos h, Int.one_mul]
theorem den_eq {t b : Int} (hb : b ≠ 0) : b.fdiv (dv t b) = ((Rat.divInt t b).den : Int) := by
  rw [fdiv_of_dvd (dv_dvd_r t b), Rat.den_divInt, if_neg hb, Int.gcd_comm b t]
  unfold dv
  rcases Int.lt_trichotomy b 0 with h | h | h
  · rw [if_pos h, Int.ediv_neg, Int.natCast_ediv]
    have e : ((b.natAbs : Nat) : Int) = -b := by omega
    rw [e, Int.neg_ediv_of_dvd (Int.gcd_dvd_right ..)]
  · exact absurd h hb
  · rw [if_neg (by omega), Int.natCast_ediv]
    have e : ((b.natAbs : Nat) : Int) = b := by omega
    rw [e]
theorem den_ne (q : Rat) : (q.den : Int) ≠ 0 := by have := q.den_nz; omega
theorem den_pos (q : Rat) : (0 : Int) < (q.den : Int) := by have := q.den_nz; omega
theorem add_eq (p q : Rat) : Rat.divInt (p.num * q.den + q.num * p.den) (p.den * q.den) = p + q := by
  rw [← Rat.divInt_add_divInt _ _ (den_ne p) (den_ne q), Rat.num_divInt_den, Rat.num_divInt_den]
theorem sub_eq (p q : Rat) : Rat.divInt (p.num * q.den - q.num * p.den) (p.den * q.den) = p - q := by
  rw [← Rat.divInt_sub_divInt _ _ (den_ne p) (den_ne q), Rat.num_divInt_den, Rat.num_divInt_den]
theorem mul_eq (p q : Rat) : Rat.divInt (p.num * q.num) (p.den * q.den) = p * q := by
  rw [← Rat.divInt_mul_divInt, Rat.num_divInt_den, Rat.num_divInt_den]
theorem div_eq (p q : Rat) : Rat.divInt (p.num * q.den) (p.den * q.num) = p / q := by
  rw [← Rat.divInt_mul_divInt, Rat.num_divInt_den, Rat.div_def, Rat.inv_def]
theorem num_ne {q : Rat} : q.num ≠ 0 ↔ q ≠ 0 := by
  constructor
  · intro h e; exact h (by rw [e]; rfl)
  · intro h e; exact h (Rat.num_eq_zero.mp e)
/-! ### sizes -/
noncomputable def Sz (n : Nat) (q : Rat) : Prop := q.num.natAbs < 2 ^ n ∧ q.den < 2 ^ n
theorem Sz.mono {m n : Nat} {q : Rat} (h : Sz m q) (l : m ≤ n) : Sz n q :=
  ⟨Nat.lt_of_lt_of_le h.1 (Nat.pow_le_pow_right (by decide) l), Nat.lt_of_lt_of_le h.2 (Nat.pow_le_pow_right (by decide) l)⟩
theorem num_le {t b : Int} (hb : b ≠ 0) : (Rat.divInt t b).num.natAbs ≤ t.natAbs := by
  rw [← num_eq hb, fdiv_of_dvd (dv_dvd_l t b), Int.natAbs_ediv_of_dvd (dv_dvd_l t b)]
  exact Nat.div_le_self ..
theorem den_le {t b : Int} (hb : b ≠ 0) : (Rat.divInt t b).den ≤ b.natAbs := by
  rw [Rat.den_divInt, if_neg hb]
  exact Nat.div_le_self ..
theorem Sz.of {n : Nat} {t b : Int} (hb : b ≠ 0) (ht : t.natAbs < 2 ^ n) (h : b.natAbs < 2 ^ n) : Sz n (Rat.divInt t b) :=
  ⟨Nat.lt_of_le_of_lt (num_le hb) ht, Nat.lt_of_le_of_lt (den_le hb) h⟩
theorem mul_lt {a b : Int} {m n : Nat} (ha : a.natAbs < 2 ^ m) (hb : b.natAbs < 2 ^ n) : (a * b).natAbs < 2 ^ (m + n) := by
  rw [Int.natAbs_mul, Nat.pow_add]
  exact Nat.mul_lt_mul'' ha hb
theorem add_lt {a b : Int} {m : Nat} (ha : a.natAbs < 2 ^ m) (hb : b.natAbs < 2 ^ m) : (a + b).natAbs < 2 ^ (m + 1) := by
  rw [Nat.pow_succ]; omega
theorem sub_lt {a b : Int} {m : Nat} (ha : a.natAbs < 2 ^ m) (hb : b.natAbs < 2 ^ m) : (a - b).natAbs < 2 ^ (m + 1) := by
  rw [Nat.pow_succ]; omega
theorem Sz.d {n : Nat} {q : Rat} (h : Sz n q) : ((q.den : Int)).natAbs < 2 ^ n := h.2
theorem Sz.add {m n : Nat} {p q : Rat} (hp : Sz m p) (hq : Sz n q) : Sz (m + n + 1) (p + q) := by
  rw [← add_eq]
  refine Sz.of (by have := den_pos p; have := den_pos q; exact Int.mul_ne_zero (den_ne p) (den_ne q)) (add_lt (mul_lt hp.1 hq.d) ?_) ?_
  · rw [Nat.add_comm m n]; exact mul_lt hq.1 hp.d
  · exact Nat.lt_of_lt_of_le (mul_lt hp.d hq.d) (Nat.pow_le_pow_right (by decide) (by omega))
theorem Sz.sub {m n : Nat} {p q : Rat} (hp : Sz m p) (hq : Sz n q) : Sz (m + n + 1) (p - q) := by
  rw [← sub_eq]
  refine Sz.of (Int.mul_ne_zero (den_ne p) (den_ne q)) (sub_lt (mul_lt hp.1 hq.d) ?_) ?_
  · rw [Nat.add_comm m n]; exact mul_lt hq.1 hp.d
  · exact Nat.lt_of_lt_of_le (mul_lt hp.d hq.d) (Nat.pow_le_pow_right (by decide) (by omega))
theorem Sz.mul {m n : Nat} {p q : Rat} (hp : Sz m p) (hq : Sz n q) : Sz (m + n) (p * q) := by
  rw [← mul_eq]
  exact Sz.of (Int.mul_ne_zero (den_ne p) (den_ne q)) (mul_lt hp.1 hq.1) (mul_lt hp.d hq.d)
theorem Sz.div {m n : Nat} {p q : Rat} (hp : Sz m p) (hq : Sz n q) (h : q ≠ 0) : Sz (m + n) (p / q) := by
  rw [← div_eq]
  exact Sz.of (Int.mul_ne_zero (den_ne p) (num_ne.mpr h)) (mul_lt hp.1 hq.d) (mul_lt hp.d hq.1)
end Fq

namespace Fr
open L3 PySem Fq
/-! ### loops -/
theorem wh_inv {t : Tv} {b : Sv} {ρ : Rho} (P : Rho → Prop) (μ : Rho → Nat) (Q : Res Fl → Prop) (h0 : P ρ)
    (step : ∀ ρ, P ρ → (t ρ = .ok false ∧ Q (.ok (.nx ρ))) ∨ (t ρ = .ok true ∧ ∃ ρ', b ρ = .ok (.nx ρ') ∧ P ρ' ∧ μ ρ' < μ ρ)) : Q (sWhile t b ρ) := by
  have main : ∀ n ρ, μ ρ ≤ n → P ρ → Q (sWhile t b ρ) := by
    intro n
    induction n with
    | zero =>
      intro ρ hn hp
      rw [sWhile_eq]
      rcases step ρ hp with ⟨h1, h2⟩ | ⟨h1, ρ', h2, h3, h4⟩
      · rw [h1]; exact h2
      · omega
    | succ n ih =>
      intro ρ hn hp
      rw [sWhile_eq]
      rcases step ρ hp with ⟨h1, h2⟩ | ⟨h1, ρ', h2, h3, h4⟩
      · rw [h1]; exact h2
      · rw [h1]
        simp only [Res.bind, if_true, h2]
        exact ih ρ' (by omega) h3
  exact main _ ρ (Nat.le_refl _) h0
/-! ### sizes -/
theorem nb_le1 {i : Int} {m : Nat} (h : i.natAbs < 2 ^ m) : nb i ≤ m + 1 := nb_le (Nat.lt_of_lt_of_le h (Nat.pow_le_pow_right (by decide) (by omega))) (by omega)
theorem okMul_of {i j : Int} {m n : Nat} (hi : i.natAbs < 2 ^ m) (hj : j.natAbs < 2 ^ n) (h : m + n ≤ 100000000) : okMul i j = true := by
  unfold okMul
  have h1 := nb_le1 hi
  have h2 := nb_le1 hj
  rw [Bool.or_eq_true]
  exact .inr (decide_eq_true (by omega))
theorem okMul_r {i j : Int} (h1 : -(2 ^ 64) < j) (h2 : j < 2 ^ 64) : okMul i j = true := by
  unfold okMul
  rw [Bool.or_eq_true, Bool.or_eq_true]
  exact .inl (.inr (by rw [decide_eq_true h1, decide_eq_true h2]; rfl))
theorem okMul_l {i j : Int} (h1 : -(2 ^ 64) < i) (h2 : i < 2 ^ 64) : okMul i j = true := by
  unfold okMul
  rw [Bool.or_eq_true, Bool.or_eq_true]
  exact .inl (.inl (by rw [decide_eq_true h1, decide_eq_true h2]; rfl))
theorem okDiv_of {j : Int} {m : Nat} (h0 : j ≠ 0) (hj : j.natAbs < 2 ^ m) (h : m ≤ 8999) : okDiv j = true := by
  unfold okDiv
  have h1 := nb_le1 hj
  rw [decide_eq_true h0, decide_eq_true (show nb j ≤ 9000 by omega)]
  rfl
theorem okDiv_lit {j : Int} (h0 : 0 < j) (h : j < 1000000000000000000) : okDiv j = true := okDiv_of (m := 64) (by omega) (by omega) (by decide)
theorem okMul_litr {i j : Int} (h1 : -1000000000000000000 < j) (h2 : j < 1000000000000000000) : okMul i j = true := okMul_r (by omega) (by omega)
theorem okMul_litl {i j : Int} (h1 : -1000000000000000000 < i) (h2 : i < 1000000000000000000) : okMul i j = true := okMul_l (by omega) (by omega)
theorem p10 (n : Nat) : (0 : Int) < 10 ^ n := Int.pow_pos (by decide)
theorem p10ne (n : Nat) : ((10 : Int) ^ n = 0) = False := eq_false (by have := p10 n; omega)
theorem p10pos2 (n : Nat) : (0 : Int) < 2 * 10 ^ n := by have := p10 n; omega
theorem p10ne2 (n : Nat) : ((2 : Int) * 10 ^ n = 0) = False := eq_false (by have := p10 n; omega)
theorem okp9 : okPow 10 9 = true := by decide
theorem okp30 : okPow 10 30 = true := by decide
theorem okp40 : okPow 10 40 = true := by decide
/-! ### fractions as values -/
noncomputable def dq (q : Rat) : D := .tup [.int q.num, .int (q.den : Int)]
noncomputable def dp (p : Rat × Rat) : D := .tup [dq p.1, dq p.2]
theorem eq_dq (p q : Rat) : eqD (dq p) (dq q) = decide (p = q) := by
  show ((p.num == q.num) && (((p.den : Int) == (q.den : Int)) && true)) = decide (p = q)
  by_cases h : p = q
  · subst h; simp
  · rw [decide_eq_false h]
    by_cases h1 : p.num = q.num
    · have h2 : p.den ≠ q.den := fun e => h (Rat.ext h1 e)
      have : ((p.den : Int) == (q.den : Int)) = false := by simp; omega
      rw [this]; simp
    · simp [h1]
theorem dep_dq (q : Rat) : dep (dq q) = 1 := rfl
theorem ix_dq0 (q : Rat) : oIx (dq q) (.int 0) = .ok (.int q.num) := rfl
theorem ix_dq1 (q : Rat) : oIx (dq q) (.int 1) = .ok (.int (q.den : Int)) := rfl
theorem ty_dq (q : Rat) : tyN (dq q) = "tuple" := rfl
theorem len_dq (q : Rat) : bLen [dq q] = .ok (.int 2) := rfl
theorem oEq_dq (p q : Rat) : oEq (dq p) (dq q) = .ok (.bl (decide (p = q))) := by
  rw [← eq_dq]; rfl
theorem oNe_dq (p q : Rat) : oNe (dq p) (dq q) = .ok (.bl (!decide (p = q))) := by
  rw [← eq_dq]; rfl
theorem noL_dq (q : Rat) : noL (dq q) = true := rfl
theorem eq_dqs : ∀ (l m : List Rat), eqDs (l.map dq) (m.map dq) = decide (l = m)
  | [], [] => rfl
  | [], _ :: _ => rfl
  | _ :: _, [] => rfl
  | p :: l, q :: m => by
    rw [List.map_cons, List.map_cons, eqDs, eq_dq, eq_dqs l m]
    simp
theorem fdiv_pos (a : Int) {b : Int} (h : 0 < b) : a.fdiv b = a / b := Int.fdiv_eq_ediv_of_nonneg a (by omega)
theorem fmod_pos (a : Int) {b : Int} (h : 0 < b) : a.fmod b = a % b := Int.fmod_eq_emod_of_nonneg a (by omega)
theorem fdiv_nn (a : Int) {b : Int} (h : 0 ≤ b) : a.fdiv b = a / b := Int.fdiv_eq_ediv_of_nonneg a h
theorem fmod_nn (a : Int) {b : Int} (h : 0 ≤ b) : a.fmod b = a % b := Int.fmod_eq_emod_of_nonneg a h
theorem depS_dqs : ∀ l : List Rat, depS (l.map dq) ≤ 1
  | [] => Nat.zero_le _
  | q :: l => by rw [List.map_cons, depS]; exact Nat.max_le.mpr ⟨Nat.le_refl _, depS_dqs l⟩
theorem dep_dqs (l : List Rat) : dep (.lst (l.map dq)) ≤ 50 := by rw [dep]; have := depS_dqs l; omega
theorem dq_one {b : Int} (h : 0 < b) : (.tup [.int 1, .int b] : D) = dq (Rat.divInt 1 b) := by
  have hb : b ≠ 0 := by omega
  have e : Fq.dv 1 b = 1 := by unfold Fq.dv; rw [if_neg (by omega)]; simp
  unfold dq
  rw [← Fq.num_eq hb, ← Fq.den_eq hb, e]
  simp
theorem dq_int (k : Int) : (.tup [.int k, .int 1] : D) = dq (k : Rat) := rfl
end Fr

namespace L3
open PySem
/-! ### how a mirror is walked through: what comes behind stays shut until its turn -/
noncomputable def seqF (b : Sv) : Fl → Res Fl
  | .nx ρ => b ρ
  | .ret r => .ok (.ret r)
  | .brk ρ => .ok (.brk ρ)
  | .ctn ρ => .ok (.ctn ρ)
theorem sSeq_at {a b : Sv} {ρ : Rho} : sSeq a b ρ = (a ρ).bind (seqF b) := by
  unfold sSeq; congr; funext f; cases f <;> rfl
noncomputable def ifF (a b : Sv) (ρ : Rho) : Bool → Res Fl
  | true => a ρ
  | false => b ρ
theorem sIf_at {t : Tv} {a b : Sv} {ρ : Rho} : sIf t a b ρ = (t ρ).bind (ifF a b ρ) := by
  unfold sIf; congr; funext c; cases c <;> rfl
noncomputable def eifF (a b : Ev) (ρ : Rho) : Bool → Res D
  | true => a ρ
  | false => b ρ
theorem eIf_at {t : Tv} {a b : Ev} {ρ : Rho} : eIf t a b ρ = (t ρ).bind (eifF a b ρ) := by
  unfold eIf; congr; funext c; cases c <;> rfl
noncomputable def andF (b : Ev) (ρ : Rho) : D → Res D
  | .bl true => b ρ
  | .bl false => .ok (.bl false)
  | _ => .no
theorem eAnd_at {a b : Ev} {ρ : Rho} : eAnd a b ρ = (a ρ).bind (andF b ρ) := by
  unfold eAnd; congr; funext c; cases c <;> try rfl
  rename_i c; cases c <;> rfl
noncomputable def orF (b : Ev) (ρ : Rho) : D → Res D
  | .bl true => .ok (.bl true)
  | .bl false => b ρ
  | _ => .no
theorem eOr_at {a b : Ev} {ρ : Rho} : eOr a b ρ = (a ρ).bind (orF b ρ) := by
  unfold eOr; congr; funext c; cases c <;> try rfl
  rename_i c; cases c <;> rfl
noncomputable def opF (o : Op2) (b : Ev) (ρ : Rho) (x : D) : Res D := (b ρ).bind (o x)
theorem eOp_at {o : Op2} {a b : Ev} {ρ : Rho} : eOp o a b ρ = (a ρ).bind (opF o b ρ) := rfl
noncomputable def consG (d : D) (ds : List D) : Res (List D) := .ok (d :: ds)
noncomputable def consF (r : Fv) (ρ : Rho) (d : D) : Res (List D) := (r ρ).bind (consG d)
theorem aCons_at {e : Ev} {r : Fv} {ρ : Rho} : aCons e r ρ = (e ρ).bind (consF r ρ) := rfl
noncomputable def tupF (ds : List D) : Res D := if ds.length ≤ 16777216 then .ok (.tup ds) else .no
theorem eTup_at {a : Fv} {ρ : Rho} : eTup a ρ = (a ρ).bind tupF := rfl
noncomputable def rtF (r : Rt) : Res D := .ok r.d
noncomputable def callF (m : Mir) (ds : List D) : Res D := (m ds).bind rtF
theorem eCall_at {m : Mir} {a : Fv} {ρ : Rho} : eCall m a ρ = (a ρ).bind (callF m) := rfl
noncomputable def isTF (T : String) (d : D) : Res D := .ok (.bl (isT T d))
theorem eIsT_at {T : String} {a : Ev} {ρ : Rho} : eIsT T a ρ = (a ρ).bind (isTF T) := rfl
noncomputable def frzF (d : D) : Res D := if noL d = true then .ok d else .no
theorem eFrz_at {e : Ev} {ρ : Rho} : eFrz e ρ = (e (ρ.map Sl.frz)).bind frzF := rfl
noncomputable def fLstF (ds : List D) : Res (List D) := if ds.length ≤ 16777216 then .ok ds else .no
theorem fLst_at {a : Fv} {ρ : Rho} : fLst a ρ = (a ρ).bind fLstF := rfl
noncomputable def rtFF : Rt → Res (List D)
  | .f ds => .ok ds
  | .v _ => .no
noncomputable def fcallF (m : Mir) (ds : List D) : Res (List D) := (m ds).bind rtFF
theorem fCall_at {m : Mir} {a : Fv} {ρ : Rho} : fCall m a ρ = (a ρ).bind (fcallF m) := by
  unfold fCall fcallF; congr
noncomputable def fListF : List D → Res (List D)
  | [.lst ds] => .ok ds
  | [.tup ds] => .ok ds
  | _ => .no
theorem fListF_l {ds : List D} : fListF [.lst ds] = .ok ds := rfl
theorem fListF_t {ds : List D} : fListF [.tup ds] = .ok ds := rfl
theorem fList_at {a : Fv} {ρ : Rho} : fList a ρ = (a ρ).bind fListF := rfl
noncomputable def catG (x y : D) : Res (List D) := match x, y with
  | .lst ds, .lst es => if ds.length + es.length ≤ 16777216 then .ok (ds ++ es) else .no
  | _, _ => .no
noncomputable def catF (b : Ev) (ρ : Rho) (x : D) : Res (List D) := (b ρ).bind (catG x)
theorem fCat_at {a b : Ev} {ρ : Rho} : fCat a b ρ = (a ρ).bind (catF b ρ) := rfl
noncomputable def efF (ds : List D) : Res D := .ok (.lst ds)
theorem eF_at {f : Fv} {ρ : Rho} : eF f ρ = (f ρ).bind efF := rfl
noncomputable def fFrzF (ds : List D) : Res (List D) := if noLs ds = true then .ok ds else .no
theorem fFrz_at {f : Fv} {ρ : Rho} : fFrz f ρ = (f (ρ.map Sl.frz)).bind fFrzF := rfl
noncomputable def oSF : D → Res (Option Int)
  | .int i => .ok (some i)
  | _ => .no
theorem oS_at {e : Ev} {ρ : Rho} : oS e ρ = (e ρ).bind oSF := by
  unfold oS; congr
noncomputable def fSlH (x : D) (l h : Option Int) : Res (List D) := match x with
  | .lst ds => .ok (sliceD ds l h)
  | _ => .no
noncomputable def fSlG (hi : Ov) (ρ : Rho) (x : D) (l : Option Int) : Res (List D) := (hi ρ).bind (fSlH x l)
noncomputable def fSlF (lo hi : Ov) (ρ : Rho) (x : D) : Res (List D) := (lo ρ).bind (fSlG hi ρ x)
theorem fSl_at {a : Ev} {lo hi : Ov} {ρ : Rho} : fSl a lo hi ρ = (a ρ).bind (fSlF lo hi ρ) := rfl
noncomputable def eSlH (x : D) (l h : Option Int) : Res D := match x with
  | .tup ds => if (sliceD ds l h).length < ds.length then .ok (.tup (sliceD ds l h)) else .no
  | _ => .no
noncomputable def blF : D → Res Bool
  | .bl b => .ok b
  | _ => .no
theorem tVal_at {e : Ev} {ρ : Rho} : tVal e ρ = (e ρ).bind blF := by
  unfold tVal; congr
noncomputable def notF (b : Bool) : Res Bool := .ok (!b)
theorem tNotB_at {t : Tv} {ρ : Rho} : tNotB t ρ = (t ρ).bind notF := rfl
noncomputable def tandF (u : Tv) (ρ : Rho) : Bool → Res Bool
  | true => u ρ
  | false => .ok false
theorem tAndB_at {t u : Tv} {ρ : Rho} : tAndB t u ρ = (t ρ).bind (tandF u ρ) := by
  unfold tAndB; congr; funext c; cases c <;> rfl
noncomputable def torF (u : Tv) (ρ : Rho) : Bool → Res Bool
  | true => .ok true
  | false => u ρ
theorem tOrB_at {t u : Tv} {ρ : Rho} : tOrB t u ρ = (t ρ).bind (torF u ρ) := by
  unfold tOrB; congr; funext c; cases c <;> rfl
noncomputable def setF (i : Nat) (ρ : Rho) (d : D) : Res Fl := .ok (.nx (ρ.set i (.val d)))
theorem sSet_at {i : Nat} {e : Ev} {ρ : Rho} : sSet i e ρ = (e ρ).bind (setF i ρ) := rfl
noncomputable def ownF (i : Nat) (ρ : Rho) (ds : List D) : Res Fl := .ok (.nx (ρ.set i (.own ds)))
theorem sOwn_at {i : Nat} {f : Fv} {ρ : Rho} : sOwn i f ρ = (f ρ).bind (ownF i ρ) := rfl
noncomputable def dropF (ρ : Rho) (_d : D) : Res Fl := .ok (.nx ρ)
theorem sDrop_at {e : Ev} {ρ : Rho} : sDrop e ρ = (e ρ).bind (dropF ρ) := rfl
noncomputable def retF (d : D) : Res Fl := .ok (.ret (.v d))
theorem sRet_at {e : Ev} {ρ : Rho} : sRet e ρ = (e (ρ.map Sl.frz)).bind retF := rfl
noncomputable def retFF (ds : List D) : Res Fl := .ok (.ret (.f ds))
theorem sRetF_at {f : Fv} {ρ : Rho} : sRetF f ρ = (f (ρ.map Sl.frz)).bind retFF := rfl
noncomputable def raiseF (c : Str) (ds : List D) : Res Fl := if ds.length ≤ 16777216 then .err c else .no
theorem sRaise_at {c : Str} {a : Fv} {ρ : Rho} : sRaise c a ρ = (a ρ).bind (raiseF c) := rfl
noncomputable def appF (i : Nat) (ρ : Rho) (ds : List D) (d : D) : Res Fl := if ds.length < 16777216 then .ok (.nx (ρ.set i (.own (ds ++ [d])))) else .no
noncomputable def appS (i : Nat) (e : Ev) (ρ : Rho) : Option Sl → Res Fl
  | some (.own ds) => (e ρ).bind (appF i ρ ds)
  | _ => .no
theorem sApp_at {i : Nat} {e : Ev} {ρ : Rho} : sApp i e ρ = appS i e ρ ρ[i]? := by
  unfold sApp appS; rfl
noncomputable def augF (i : Nat) (ρ : Rho) (o : Op2) (x y : D) : Res Fl := (o x y).bind (setF i ρ)
noncomputable def augS (i : Nat) (o : Op2) (e : Ev) (ρ : Rho) : Option Sl → Res Fl
  | some (.val x) => (e ρ).bind (augF i ρ o x)
  | _ => .no
theorem sAug_at {i : Nat} {o : Op2} {e : Ev} {ρ : Rho} : sAug i o e ρ = augS i o e ρ ρ[i]? := by
  unfold sAug augS; rfl
noncomputable def dropG (ρ : Rho) (_r : Rt) : Res Fl := .ok (.nx ρ)
noncomputable def setG (i : Nat) (ρ : Rho) (r : Rt) : Res Fl := .ok (.nx (ρ.set i (.val r.d)))
noncomputable def varS : Option Sl → Res D
  | some (.val d) => .ok d
  | _ => .no
theorem eVar_at {i : Nat} {ρ : Rho} : eVar i ρ = varS ρ[i]? := by
  unfold eVar varS; rfl
noncomputable def retS : Option Sl → Res Fl
  | some (.own ds) => .ok (.ret (.f ds))
  | _ => .no
theorem sRetOwn_at {i : Nat} {ρ : Rho} : sRetOwn i ρ = retS ρ[i]? := by
  unfold sRetOwn retS; rfl
noncomputable def nxF (ρ : Rho) : Res Fl := .ok (.nx ρ)
noncomputable def unpF (g : Gv) (ρ : Rho) (d : D) : Res Fl := (g d ρ).bind nxF
theorem sUnp_at {g : Gv} {f : Ev} {ρ : Rho} : sUnp g f ρ = (f ρ).bind (unpF g ρ) := rfl
noncomputable def gtF (gs : List D → Rho → Res Rho) (ρ : Rho) : D → Res Rho
  | .tup ds => gs ds ρ
  | _ => .no
theorem gTup_at {gs : List D → Rho → Res Rho} {d : D} {ρ : Rho} : gTup gs d ρ = gtF gs ρ d := by
  unfold gTup gtF; rfl
theorem gCons_at {g : Gv} {r : List D → Rho → Res Rho} {d : D} {ds : List D} {ρ : Rho} : gCons g r (d :: ds) ρ = (g d ρ).bind (r ds) := rfl
theorem gNil_at {ρ : Rho} : gNil [] ρ = .ok ρ := rfl
noncomputable def forF (g : Gv) (b : Sv) (ρ : Rho) (ds : List D) : Res Fl := loop g b ds ρ
theorem sFor_at {it : Fv} {g : Gv} {b : Sv} {ρ : Rho} : sFor it g b ρ = (it ρ).bind (forF g b ρ) := rfl
noncomputable def seqD : D → Res (List D)
  | .lst ds => .ok ds
  | .tup ds => .ok ds
  | _ => .no
theorem seqD_l {ds : List D} : seqD (.lst ds) = .ok ds := rfl
theorem seqD_t {ds : List D} : seqD (.tup ds) = .ok ds := rfl
theorem iSeq_at {e : Ev} {ρ : Rho} : iSeq e ρ = (e ρ).bind seqD := by
  unfold iSeq; congr
noncomputable def rng1F : List D → Res (List D)
  | [.int j] => if -(2 ^ 62) ≤ j ∧ j < 2 ^ 62 then .ok (rng 0 j.toNat 1) else .no
  | _ => .no
theorem iRng1_at {a : Fv} {ρ : Rho} : iRng1 a ρ = (a ρ).bind rng1F := rfl
theorem fn_at {p n : Nat} {b : Sv} {ds : List D} (h : ds.length = p) : fn p n b ds = (b (start n ds)).bind fin := by
  unfold fn; rw [if_pos h]
/-! the steps -/
theorem nr {α : Sort _} {a b : α} (h : a = b) : a = b := h
theorem okb {α β : Type} {a : α} {f : α → Res β} : (Res.ok a).bind f = f a := nr rfl
theorem erb {α β : Type} {c : Str} {f : α → Res β} : (Res.err c).bind f = .err c := nr rfl
theorem seqF_nx {b : Sv} {ρ : Rho} : seqF b (.nx ρ) = b ρ := nr rfl
theorem seqF_ret {b : Sv} {r : Rt} : seqF b (.ret r) = .ok (.ret r) := nr rfl
theorem gtF_t {gs : List D → Rho → Res Rho} {ρ : Rho} {ds : List D} : gtF gs ρ (.tup ds) = gs ds ρ := nr rfl
theorem ifF_t {a b : Sv} {ρ : Rho} : ifF a b ρ true = a ρ := nr rfl
theorem ifF_f {a b : Sv} {ρ : Rho} : ifF a b ρ false = b ρ := nr rfl
theorem eifF_t {a b : Ev} {ρ : Rho} : eifF a b ρ true = a ρ := nr rfl
theorem eifF_f {a b : Ev} {ρ : Rho} : eifF a b ρ false = b ρ := nr rfl
theorem andF_t {b : Ev} {ρ : Rho} : andF b ρ (.bl true) = b ρ := nr rfl
theorem andF_f {b : Ev} {ρ : Rho} : andF b ρ (.bl false) = .ok (.bl false) := nr rfl
theorem orF_t {b : Ev} {ρ : Rho} : orF b ρ (.bl true) = .ok (.bl true) := nr rfl
theorem orF_f {b : Ev} {ρ : Rho} : orF b ρ (.bl false) = b ρ := nr rfl
theorem tandF_t {u : Tv} {ρ : Rho} : tandF u ρ true = u ρ := nr rfl
theorem tandF_f {u : Tv} {ρ : Rho} : tandF u ρ false = .ok false := nr rfl
theorem torF_t {u : Tv} {ρ : Rho} : torF u ρ true = .ok true := nr rfl
theorem torF_f {u : Tv} {ρ : Rho} : torF u ρ false = u ρ := nr rfl
theorem oAdd_i {i j : Int} : oAdd (.int i) (.int j) = .ok (.int (i + j)) := rfl
theorem oSub_i {i j : Int} : oSub (.int i) (.int j) = .ok (.int (i - j)) := rfl
theorem oMul_i {i j : Int} (h : okMul i j = true) : oMul (.int i) (.int j) = .ok (.int (i * j)) := if_pos h
theorem oDiv_i {i j : Int} (h : okDiv j = true) : oDiv (.int i) (.int j) = .ok (.int (i.fdiv j)) := if_pos h
theorem oMod_i {i j : Int} (h : j ≠ 0) : oMod (.int i) (.int j) = .ok (.int (i.fmod j)) := if_pos h
theorem oPow_i {i j : Int} (h : okPow i j = true) : oPow (.int i) (.int j) = .ok (.int (i ^ j.toNat)) := if_pos h
theorem oEq_i {i j : Int} : oEq (.int i) (.int j) = .ok (.bl (decide (i = j))) := rfl
theorem oNe_i {i j : Int} : oNe (.int i) (.int j) = .ok (.bl (!decide (i = j))) := rfl
theorem oLt_i {i j : Int} : oLt (.int i) (.int j) = .ok (.bl (decide (i < j))) := rfl
theorem oLe_i {i j : Int} : oLe (.int i) (.int j) = .ok (.bl (decide (i ≤ j))) := rfl
theorem oGt_i {i j : Int} : oGt (.int i) (.int j) = .ok (.bl (decide (j < i))) := rfl
theorem oGe_i {i j : Int} : oGe (.int i) (.int j) = .ok (.bl (decide (j ≤ i))) := rfl
theorem oIx_l {ds : List D} {i : Int} : oIx (.lst ds) (.int i) = ofO (atD ds i) := rfl
theorem ofO_some {α : Type} {a : α} : ofO (some a) = .ok a := rfl
theorem oNeg_i {i : Int} : oNeg (.int i) = .ok (.int (-i)) := rfl
theorem oNot_b {b : Bool} : oNot (.bl b) = .ok (.bl (!b)) := rfl
theorem bAbs_i {i : Int} : bAbs [.int i] = .ok (.int (i.natAbs : Int)) := by
  show Res.ok (D.int (if i < 0 then -i else i)) = _
  congr 2; split <;> omega
theorem bMin_i {i j : Int} : bMin [.int i, .int j] = .ok (.int (min i j)) := by
  show Res.ok (D.int (if j < i then j else i)) = _
  congr 2; split <;> omega
theorem rng1F_i {j : Int} (h1 : -(2 ^ 62) ≤ j) (h2 : j < 2 ^ 62) : rng1F [.int j] = .ok (rng 0 j.toNat 1) := if_pos ⟨h1, h2⟩
/-- a loop that goes through: P at each turn -/
theorem loop_go {α : Type} {g : Gv} {b : Sv} {ds : List D} {ρ : Rho} {k : Fl → Res α} {Q : Res α → Prop} (P : Rho → Prop) (h0 : P ρ)
    (st : ∀ d ρ, d ∈ ds → P ρ → ∃ ρ2, (g d ρ).bind b = .ok (.nx ρ2) ∧ P ρ2) (fi : ∀ ρ', P ρ' → Q (k (.nx ρ'))) : Q ((loop g b ds ρ).bind k) := by
  suffices h : ∃ ρ', loop g b ds ρ = .ok (.nx ρ') ∧ P ρ' by
    obtain ⟨ρ', e, hp⟩ := h
    rw [e]
    exact fi ρ' hp
  clear fi
  induction ds generalizing ρ with
  | nil => exact ⟨ρ, rfl, h0⟩
  | cons d ds ih =>
    obtain ⟨ρ2, e, hp⟩ := st d ρ List.mem_cons_self h0
    obtain ⟨ρ', e', hp'⟩ := ih hp fun d' ρ' hd => st d' ρ' (List.mem_cons_of_mem _ hd)
    refine ⟨ρ', ?_, hp'⟩
    rw [loop]
    cases hg : g d ρ with
    | no => rw [hg] at e; cases e
    | err c => rw [hg] at e; cases e
    | ok ρ1 =>
      rw [hg] at e
      have e2 : b ρ1 = .ok (.nx ρ2) := e
      simp only [Res.bind, e2]
      exact e'
theorem ty_i {i : Int} : tyN (.int i) = "int" := rfl
theorem ty_b {b : Bool} : tyN (.bl b) = "bool" := rfl
theorem ty_t {ds : List D} : tyN (.tup ds) = "tuple" := rfl
theorem ty_l {ds : List D} : tyN (.lst ds) = "list" := rfl
theorem ty_s {x : Str} : tyN (.str x) = "str" := rfl
theorem ty_n : tyN .non = "NoneType" := rfl
theorem bLen_t {ds : List D} : bLen [.tup ds] = .ok (.int ds.length) := rfl
theorem bLen_l {ds : List D} : bLen [.lst ds] = .ok (.int ds.length) := rfl
/-- a loop that goes through, turn by turn -/
theorem loop_gl {α : Type} {g : Gv} {b : Sv} {ds : List D} {ρ : Rho} {k : Fl → Res α} {Q : Res α → Prop} (P : Nat → Rho → Prop) (h0 : P 0 ρ)
    (st : ∀ i d ρ, ds[i]? = some d → P i ρ → ∃ ρ2, (g d ρ).bind b = .ok (.nx ρ2) ∧ P (i + 1) ρ2) (fi : ∀ ρ', P ds.length ρ' → Q (k (.nx ρ'))) : Q ((loop g b ds ρ).bind k) := by
  suffices h : ∀ (ds : List D) (j : Nat) (ρ : Rho), P j ρ → (∀ i d ρ, ds[i]? = some d → P (j + i) ρ → ∃ ρ2, (g d ρ).bind b = .ok (.nx ρ2) ∧ P (j + i + 1) ρ2) → ∃ ρ', loop g b ds ρ = .ok (.nx ρ') ∧ P (j + ds.length) ρ' by
    obtain ⟨ρ', e, hp⟩ := h ds 0 ρ h0 (fun i d ρ hd hp => by rw [Nat.zero_add] at hp ⊢; exact st i d ρ hd hp)
    rw [e]
    exact fi ρ' (by rw [Nat.zero_add] at hp; exact hp)
  intro ds
  induction ds with
  | nil => intro j ρ hp _; exact ⟨ρ, rfl, hp⟩
  | cons d ds ih =>
    intro j ρ hp st
    obtain ⟨ρ2, e, hp2⟩ := st 0 d ρ rfl hp
    obtain ⟨ρ', e', hp'⟩ := ih (j + 1) ρ2 hp2 fun i d' ρ' hd hp => by
      have := st (i + 1) d' ρ' (by simpa using hd) (by rw [show j + (i + 1) = j + 1 + i by omega]; exact hp)
      rw [show j + (i + 1) = j + 1 + i by omega] at this
      exact this
    refine ⟨ρ', ?_, by rw [List.length_cons, show j + (ds.length + 1) = j + 1 + ds.length by omega]; exact hp'⟩
    rw [loop]
    cases hg : g d ρ with
    | no => rw [hg] at e; cases e
    | err c => rw [hg] at e; cases e
    | ok ρ1 =>
      rw [hg] at e
      have e2 : b ρ1 = .ok (.nx ρ2) := e
      simp only [Res.bind, e2]
      exact e'
theorem rng_ix {lo c : Int} {n i : Nat} {d : D} (h : (rng lo n c)[i]? = some d) : i < n ∧ d = .int (lo + (i : Int) * c) := by
  unfold rng at h
  rw [List.getElem?_map] at h
  by_cases hi : i < n
  · rw [List.getElem?_range hi] at h
    cases h
    exact ⟨hi, rfl⟩
  · rw [List.getElem?_eq_none (by rw [List.length_range]; omega)] at h
    cases h
theorem rng_ln {lo c : Int} {n : Nat} : (rng lo n c).length = n := by unfold rng; rw [List.length_map, List.length_range]
noncomputable def compF (t : Tv) (f : Ev) (ρ : Rho) (ds : List D) : Res (List D) := if ds.length ≤ 16777215 then compD t f ρ ds else .no
theorem fComp_at {it : Fv} {t : Tv} {f : Ev} {ρ : Rho} : fComp it t f ρ = (it ρ).bind (compF t f ρ) := rfl
theorem drop_min {α : Type} (l : List α) (a : Nat) : l.drop (min a l.length) = l.drop a := by
  rcases Nat.le_total a l.length with h | h
  · rw [Nat.min_eq_left h]
  · rw [Nat.min_eq_right h, List.drop_length, List.drop_eq_nil_of_le h]
theorem slice_mid {ds : List D} {a b : Int} (h1 : 0 ≤ a) (h2 : 0 ≤ b) : sliceD ds (some a) (some b) = (ds.drop a.toNat).take (b.toNat - a.toNat) := by
  unfold sliceD cut
  simp only [h1, h2, if_true]
  rw [drop_min]
  rcases Nat.le_total ds.length a.toNat with c | c
  · rw [List.drop_eq_nil_of_le c, List.take_nil, List.take_nil]
  · rw [Nat.min_eq_left c]
    rcases Nat.le_total b.toNat ds.length with d | d
    · rw [Nat.min_eq_left d]
    · rw [Nat.min_eq_right d, List.take_of_length_le (by rw [List.length_drop]; exact Nat.le_refl _), List.take_of_length_le (by rw [List.length_drop]; exact Nat.sub_le_sub_right d _)]
theorem ix_map {α : Type} {f : α → D} {l : List α} {i : Int} {a : α} (h0 : 0 ≤ i) (h : l[i.toNat]? = some a) : oIx (.lst (l.map f)) (.int i) = .ok (f a) := by
  show ofO (atD (l.map f) i) = _
  unfold atD
  rw [if_pos h0, List.getElem?_map, h]
  rfl
theorem oIx_tc {d : D} {ds : List D} {i : Int} : oIx (.tup (d :: ds)) (.int i) = ofO (atD (d :: ds) i) := rfl
/-- a loop that goes through or answers -/
theorem loop_find {α : Type} {g : Gv} {b : Sv} {ds : List D} {ρ : Rho} {k : Fl → Res α} {Q : Res α → Prop} (P : Nat → Rho → Prop) (h0 : P 0 ρ)
    (st : ∀ i d ρ, ds[i]? = some d → P i ρ → (∃ ρ2, (g d ρ).bind b = .ok (.nx ρ2) ∧ P (i + 1) ρ2) ∨ ∃ r, (g d ρ).bind b = .ok (.ret r) ∧ Q (k (.ret r))) (fi : ∀ ρ', P ds.length ρ' → Q (k (.nx ρ'))) : Q ((loop g b ds ρ).bind k) := by
  suffices h : ∀ (ds : List D) (j : Nat) (ρ : Rho), P j ρ → (∀ i d ρ, ds[i]? = some d → P (j + i) ρ → (∃ ρ2, (g d ρ).bind b = .ok (.nx ρ2) ∧ P (j + i + 1) ρ2) ∨ ∃ r, (g d ρ).bind b = .ok (.ret r) ∧ Q (k (.ret r))) → (∃ ρ', loop g b ds ρ = .ok (.nx ρ') ∧ P (j + ds.length) ρ') ∨ ∃ r, loop g b ds ρ = .ok (.ret r) ∧ Q (k (.ret r)) by
    rcases h ds 0 ρ h0 (fun i d ρ hd hp => by rw [Nat.zero_add] at hp ⊢; exact st i d ρ hd hp) with ⟨ρ', e, hp⟩ | ⟨r, e, hq⟩
    · rw [e]
      exact fi ρ' (by rw [Nat.zero_add] at hp; exact hp)
    · rw [e]
      exact hq
  intro ds
  induction ds with
  | nil => intro j ρ hp _; exact .inl ⟨ρ, rfl, hp⟩
  | cons d ds ih =>
    intro j ρ hp st
    rcases st 0 d ρ rfl hp with ⟨ρ2, e, hp2⟩ | ⟨r, e, hq⟩
    · have e3 : loop g b (d :: ds) ρ = loop g b ds ρ2 := by
        rw [loop]
        cases hg : g d ρ with
        | no => rw [hg] at e; cases e
        | err c => rw [hg] at e; cases e
        | ok ρ1 =>
          rw [hg] at e
          have e2 : b ρ1 = .ok (.nx ρ2) := e
          simp only [Res.bind, e2]
      rw [e3]
      rcases ih (j + 1) ρ2 hp2 (fun i d' ρ' hd hp => by
        have := st (i + 1) d' ρ' (by simpa using hd) (by rw [show j + (i + 1) = j + 1 + i by omega]; exact hp)
        rw [show j + (i + 1) = j + 1 + i by omega] at this
        exact this) with ⟨ρ', e', hp'⟩ | h
      · exact .inl ⟨ρ', e', by rw [List.length_cons, show j + (ds.length + 1) = j + 1 + ds.length by omega]; exact hp'⟩
      · exact .inr h
    · refine .inr ⟨r, ?_, hq⟩
      rw [loop]
      cases hg : g d ρ with
      | no => rw [hg] at e; cases e
      | err c => rw [hg] at e; cases e
      | ok ρ1 =>
        rw [hg] at e
        have e2 : b ρ1 = .ok (.ret r) := e
        simp only [Res.bind, e2]
noncomputable def repG (ds : List D) : D → Res (List D)
  | .int k => if 0 ≤ k ∧ k < 2 ^ 62 ∧ ds.length * k.toNat ≤ 16777216 then .ok (List.replicate k.toNat ds).flatten else .no
  | _ => .no
noncomputable def repF (g : Ev) (ρ : Rho) (ds : List D) : Res (List D) := (g ρ).bind (repG ds)
theorem fRep_at {f : Fv} {g : Ev} {ρ : Rho} : fRep f g ρ = (f ρ).bind (repF g ρ) := by
  unfold fRep repF; congr
theorem repG_1 {d : D} {k : Nat} (h : k ≤ 16777216) : repG [d] (.int (k : Int)) = .ok (List.replicate k d) := by
  have e : ∀ n, (List.replicate n [d]).flatten = List.replicate n d := by
    intro n
    induction n with
    | zero => rfl
    | succ n ih => rw [List.replicate_succ, List.flatten_cons, ih]; rfl
  unfold repG
  dsimp only
  rw [if_pos ⟨by omega, by omega, by simp only [List.length_cons, List.length_nil, Int.toNat_natCast]; omega⟩, Int.toNat_natCast, e]
/-- a comprehension over things that are told by others -/
theorem comp_of {α : Type} {u : α → D} {f : Ev} {ρ : Rho} {g : α → D} : ∀ {l : List α}, (∀ a ∈ l, f (ρ ++ [.val (u a)]) = .ok (g a)) → compD tTrue f ρ (l.map u) = .ok (l.map g)
  | [], _ => rfl
  | a :: l, h => by
    rw [List.map_cons, compD, h a List.mem_cons_self]
    simp only [tTrue, noErr, Res.bind, if_true]
    rw [comp_of fun b hb => h b (List.mem_cons_of_mem _ hb)]
    rfl
theorem compF_of {α : Type} {u : α → D} {f : Ev} {ρ : Rho} {g : α → D} {l : List α} (hl : l.length ≤ 16777215) (h : ∀ a ∈ l, f (ρ ++ [.val (u a)]) = .ok (g a)) : compF tTrue f ρ (l.map u) = .ok (l.map g) := by
  unfold compF; rw [if_pos (by rw [List.length_map]; exact hl), comp_of h]
theorem bSum_l {ns : List Int} : bSum [.lst (ns.map D.int)] = .ok (.int ns.sum) := by
  have e : ∀ ns : List Int, intsD (ns.map D.int) = some ns := by
    intro ns
    induction ns with
    | nil => rfl
    | cons i ns ih => rw [List.map_cons, intsD, ih]
  show (match intsD (ns.map D.int) with | some ns => Res.ok (D.int ns.sum) | none => .no) = _
  rw [e]
theorem bSum_t {ns : List Int} : bSum [.tup (ns.map D.int)] = .ok (.int ns.sum) := by
  have e : ∀ ns : List Int, intsD (ns.map D.int) = some ns := by
    intro ns
    induction ns with
    | nil => rfl
    | cons i ns ih => rw [List.map_cons, intsD, ih]
  show (match intsD (ns.map D.int) with | some ns => Res.ok (D.int ns.sum) | none => .no) = _
  rw [e]
/-- the number in a slot -/
noncomputable def slI (i : Nat) (ρ : Rho) : Int := match ρ[i]? with
  | some (.val (.int x)) => x
  | _ => 0
theorem chO_s {c : Nat} : chO (some c) = .ok (.str ⟨#[c]⟩) := rfl
theorem dep_s {x : Str} : dep (.str x) ≤ 50 := by simp [dep]
theorem oEq_s {x y : Str} : oEq (.str x) (.str y) = .ok (.bl (x == y)) := by
  unfold oEq; rw [if_pos dep_s, eqD]
theorem oNe_s {x y : Str} : oNe (.str x) (.str y) = .ok (.bl (!(x == y))) := by
  unfold oNe; rw [if_pos dep_s, eqD]
theorem loop_cons {g : Gv} {b : Sv} {d : D} {ds : List D} {ρ ρ1 ρ2 : Rho} (hg : g d ρ = .ok ρ1) (hb : b ρ1 = .ok (.nx ρ2)) : loop g b (d :: ds) ρ = loop g b ds ρ2 := by
  rw [loop]
  simp only [hg, Res.bind, hb]
theorem oTabNot_s {T : List (Str × Str)} {x : Str} : oTabNot T (.str x) = .ok (.bl (!(T.lookup x).isSome)) := rfl
/-! zip, enumerate -/
noncomputable def zipF : List D → Res (List D)
  | [x, y] => match seqO x, seqO y with
    | some xs, some ys => .ok (pairD xs ys)
    | _, _ => .no
  | _ => .no
theorem iZip_at {a : Fv} {ρ : Rho} : iZip a ρ = (a ρ).bind zipF := by
  unfold iZip; congr
theorem zipF_of {x y : D} {xs ys : List D} (hx : seqO x = some xs) (hy : seqO y = some ys) : zipF [x, y] = .ok (pairD xs ys) := by
  show (match seqO x, seqO y with | some xs, some ys => Res.ok (pairD xs ys) | _, _ => .no) = _
  rw [hx, hy]
noncomputable def comp2F (f : Ev) (ρ : Rho) (ds : List D) : Res (List D) := if ds.length ≤ 16777215 then comp2D f ρ ds else .no
theorem fComp2_at {it : Fv} {f : Ev} {ρ : Rho} : fComp2 it f ρ = (it ρ).bind (comp2F f ρ) := rfl
theorem comp2_of {α β : Type} {u : α → D} {v : β → D} {f : Ev} {ρ : Rho} {g : α → β → D} : ∀ {l : List α} {m : List β}, (∀ p ∈ l.zip m, f (ρ ++ [.val (u p.1), .val (v p.2)]) = .ok (g p.1 p.2)) →
    comp2D f ρ (pairD (l.map u) (m.map v)) = .ok ((l.zip m).map fun p => g p.1 p.2)
  | [], m, h => by cases m <;> rfl
  | a :: l, [], h => rfl
  | a :: l, b :: m, h => by
    have h1 := h (a, b) List.mem_cons_self
    have h2 := comp2_of (l := l) (m := m) (u := u) (v := v) (g := g) fun p hp => h p (List.mem_cons_of_mem _ hp)
    show (noErr (f (ρ ++ [.val (u a), .val (v b)]))).bind (fun e => (comp2D f ρ (pairD (l.map u) (m.map v))).bind fun es => .ok (e :: es)) = _
    rw [h1, h2]
    rfl
theorem comp2F_of {α β : Type} {u : α → D} {v : β → D} {f : Ev} {ρ : Rho} {g : α → β → D} {l : List α} {m : List β} (hl : l.length ≤ 16777215) (h : ∀ p ∈ l.zip m, f (ρ ++ [.val (u p.1), .val (v p.2)]) = .ok (g p.1 p.2)) :
    comp2F f ρ (pairD (l.map u) (m.map v)) = .ok ((l.zip m).map fun p => g p.1 p.2) := by
  unfold comp2F
  rw [if_pos, comp2_of h]
  have : ∀ (a b : List D), (pairD a b).length ≤ a.length := by
    intro a
    induction a with
    | nil => intro b; cases b <;> exact Nat.le_refl _
    | cons x a ih => intro b; cases b with
      | nil => exact Nat.zero_le _
      | cons y b => exact Nat.succ_le_succ (ih b)
  exact Nat.le_trans (this _ _) (by rw [List.length_map]; exact hl)
end L3

namespace Ln
open Fq
/-! ### points of lines, without any program -/
noncomputable abbrev Pt := Rat × Rat
/-- b lies straight between a and c -/
noncomputable def btw (a b c : Pt) : Bool := decide ((b.2 - a.2) * (c.1 - b.1) = (c.2 - b.2) * (b.1 - a.1))
/-- what is kept, the last one first -/
noncomputable def push : List Pt → Pt → List Pt
  | b :: a :: s, c => if btw a b c = true then c :: a :: s else c :: b :: a :: s
  | s, c => c :: s
theorem lt_iff {p q : Rat} : p.num * q.den < q.num * p.den ↔ p < q := Rat.lt_iff p q |>.symm
theorem divInt_pos {t b : Int} (ht : 0 < t) (hb : 0 < b) : 0 < Rat.divInt t b := by
  rw [Rat.divInt_eq_div]
  have h1 : (0 : Rat) < (t : Rat) := by exact_mod_cast ht
  have h2 : (0 : Rat) < (b : Rat) := by exact_mod_cast hb
  rw [Rat.div_def]
  exact Rat.mul_pos h1 (Rat.inv_pos.mpr h2)
theorem divInt_nn {t b : Int} (ht : 0 ≤ t) (hb : 0 < b) : 0 ≤ Rat.divInt t b := by
  rcases Int.lt_or_eq_of_le ht with h | h
  · exact Rat.le_of_lt (divInt_pos h hb)
  · rw [← h, Rat.zero_divInt]; exact Rat.le_refl
end Ln

namespace L3
open PySem PySem.Spec PyProof.Rows L2
noncomputable abbrev St := L2.St
/-! ### values in the heap -/
mutual
inductive IsD (K : PySem.W.Frag) (H : Hp) : V → D → Prop where
  | non : IsD K H .non .non
  | bl (b : Bool) : IsD K H (.bl b) (.bl b)
  | int (i : Int) : IsD K H (.int i) (.int i)
  | str (x : Str) : IsD K H (.str x) (.str x)
  | tup {a : Addr} {xs : List V} {ds : List D} : SqT K H a xs → IsDs K H xs ds → IsD K H (.ref a) (.tup ds)
  | lst {a : Addr} {xs : List V} {ds : List D} : SqL K H a xs → IsDs K H xs ds → IsD K H (.ref a) (.lst ds)
inductive IsDs (K : PySem.W.Frag) (H : Hp) : List V → List D → Prop where
  | nil : IsDs K H [] []
  | cons {v : V} {d : D} {vs : List V} {ds : List D} : IsD K H v d → IsDs K H vs ds → IsDs K H (v :: vs) (d :: ds)
end
theorem _root_.L2.Same.rd {H H' : Hp} (e : Same H H') {a : Addr} {u : HO} (h : Rd H a u) : Rd H' a u := by
  rcases h with h | ⟨o, h⟩
  · exact .inl (e _ _ h)
  · exact .inr ⟨o, e _ _ h⟩
theorem sqT_mono {K : PySem.W.Frag} {H H' : Hp} (e : Same H H') {a : Addr} {xs : List V} (h : SqT K H a xs) : SqT K H' a xs := h.imp (Same.rd e) id
theorem sqL_mono {K : PySem.W.Frag} {H H' : Hp} (e : Same H H') {a : Addr} {xs : List V} (h : SqL K H a xs) : SqL K H' a xs := h.imp (Same.rd e) id
section
variable {K : PySem.W.Frag} {H H' : Hp}
mutual
theorem IsD.mono (e : Same H H') : ∀ {v : V} {d : D}, IsD K H v d → IsD K H' v d
  | _, _, .non => .non
  | _, _, .bl b => .bl b
  | _, _, .int i => .int i
  | _, _, .str x => .str x
  | _, _, .tup h hs => .tup (sqT_mono e h) (IsDs.mono e hs)
  | _, _, .lst h hs => .lst (sqL_mono e h) (IsDs.mono e hs)
theorem IsDs.mono (e : Same H H') : ∀ {vs : List V} {ds : List D}, IsDs K H vs ds → IsDs K H' vs ds
  | _, _, .nil => .nil
  | _, _, .cons h hs => .cons (IsD.mono e h) (IsDs.mono e hs)
end
theorem IsDs.length : ∀ {vs : List V} {ds : List D}, IsDs K H vs ds → vs.length = ds.length
  | _, _, .nil => rfl
  | _, _, .cons _ hs => by rw [List.length_cons, List.length_cons, IsDs.length hs]
theorem IsDs.at : ∀ {vs : List V} {ds : List D} {j : Nat} {d : D}, IsDs K H vs ds → ds[j]? = some d → ∃ v, vs[j]? = some v ∧ IsD K H v d
  | _, _, _, _, .nil, e => by simp at e
  | _, _, 0, _, .cons r _, e => by simp at e; subst e; exact ⟨_, rfl, r⟩
  | _, _, j + 1, d, .cons _ t, e => by
    obtain ⟨v, h1, h2⟩ := IsDs.at (j := j) (d := d) t (by simpa using e)
    exact ⟨v, by simpa using h1, h2⟩
theorem IsDs.append : ∀ {vs ws : List V} {ds es : List D}, IsDs K H vs ds → IsDs K H ws es → IsDs K H (vs ++ ws) (ds ++ es)
  | _, _, _, _, .nil, s => s
  | _, _, _, _, .cons r t, s => .cons r (IsDs.append t s)
theorem IsDs.take : ∀ {vs : List V} {ds : List D} (n : Nat), IsDs K H vs ds → IsDs K H (vs.take n) (ds.take n)
  | _, _, 0, _ => .nil
  | _, _, _ + 1, .nil => .nil
  | _, _, n + 1, .cons r t => .cons r (IsDs.take n t)
theorem IsDs.drop : ∀ {vs : List V} {ds : List D} (n : Nat), IsDs K H vs ds → IsDs K H (vs.drop n) (ds.drop n)
  | _, _, 0, r => r
  | _, _, _ + 1, .nil => .nil
  | _, _, n + 1, .cons _ t => IsDs.drop n t
theorem IsDs.set {v : V} {d : D} (h : IsD K H v d) : ∀ {vs : List V} {ds : List D} (j : Nat), IsDs K H vs ds → IsDs K H (vs.set j v) (ds.set j d)
  | _, _, _, .nil => .nil
  | _, _, 0, .cons _ t => .cons h t
  | _, _, j + 1, .cons q t => .cons q (IsDs.set h j t)
/-! what has no list leans on tuples alone -/
mutual
theorem IsD.noL (k : ∀ b xs, Rd H b (.tup xs) → Rd H' b (.tup xs)) : ∀ {v : V} {d : D}, IsD K H v d → L3.noL d = true → IsD K H' v d
  | _, _, .non, _ => .non
  | _, _, .bl b, _ => .bl b
  | _, _, .int i, _ => .int i
  | _, _, .str x, _ => .str x
  | _, _, .tup h hs, e => .tup (h.imp (k _ _) id) (IsDs.noL k hs (by rw [L3.noL] at e; exact e))
  | _, _, .lst h hs, e => by rw [L3.noL] at e; cases e
theorem IsDs.noL (k : ∀ b xs, Rd H b (.tup xs) → Rd H' b (.tup xs)) : ∀ {vs : List V} {ds : List D}, IsDs K H vs ds → L3.noLs ds = true → IsDs K H' vs ds
  | _, _, .nil, _ => .nil
  | _, _, .cons h hs, e => by
    rw [L3.noLs, Bool.and_eq_true] at e
    exact .cons (IsD.noL k h e.1) (IsDs.noL k hs e.2)
end
end
theorem IsD.intI {K : PySem.W.Frag} {H : Hp} {v : V} {i : Int} (h : IsD K H v (.int i)) : v = .int i := by cases h; rfl
theorem IsD.blI {K : PySem.W.Frag} {H : Hp} {v : V} {b : Bool} (h : IsD K H v (.bl b)) : v = .bl b := by cases h; rfl
theorem IsD.strI {K : PySem.W.Frag} {H : Hp} {v : V} {x : Str} (h : IsD K H v (.str x)) : v = .str x := by cases h; rfl
theorem IsD.tupI {K : PySem.W.Frag} {H : Hp} {v : V} {ds : List D} (h : IsD K H v (.tup ds)) : ∃ a xs, v = .ref a ∧ SqT K H a xs ∧ IsDs K H xs ds := by
  cases h with
  | tup h hs => exact ⟨_, _, rfl, h, hs⟩
theorem IsD.lstI {K : PySem.W.Frag} {H : Hp} {v : V} {ds : List D} (h : IsD K H v (.lst ds)) : ∃ a xs, v = .ref a ∧ SqL K H a xs ∧ IsDs K H xs ds := by
  cases h with
  | lst h hs => exact ⟨_, _, rfl, h, hs⟩
/-! ### tables of code: they may grow; each code that is told there stands as it is -/
noncomputable def qualR : Str := "ranked.<locals>.<lambda>"
noncomputable def TabAt (P : Addr) (H : Hp) : Prop := ∃ ps, H P = some (.tbl ps) ∧ TriplesOk ps.toList ∧ ∀ (pos : Pos) (cv : Value), codeAmong pos ps.toList = some cv → ∃ c oc vs t u, cv = .ref c ∧ H c = some (.frz oc u) ∧ oc.data = .fields vs ∧ vs[1]? = some (.str qualR t)
theorem TabAt.put {P a : Addr} {H : Hp} {x : HO} (h : TabAt P H) (h1 : ∀ ps, H a ≠ some (.tbl ps)) (h2 : ∀ o u, H a ≠ some (.frz o u)) : TabAt P (upd H a x) := by
  obtain ⟨ps, e, t, k⟩ := h
  refine ⟨ps, by rw [upd_ne (show P ≠ a from fun z => h1 ps (by rw [← z]; exact e))]; exact e, t, fun pos cv q => ?_⟩
  obtain ⟨c, oc, vs, tk, u, r1, r2, r3⟩ := k pos cv q
  exact ⟨c, oc, vs, tk, u, r1, by rw [upd_ne (show c ≠ a from fun z => h2 oc u (by rw [← z]; exact r2))]; exact r2, r3⟩
/-- all objects kept, but that tables of code may grow -/
structure Keep (H H' : Hp) : Prop where
  k : ∀ b o, H b = some o → H' b = some o ∨ ∃ ps ps', o = .tbl ps ∧ H' b = some (.tbl ps')
  t : ∀ P, TabAt P H → TabAt P H'
theorem Keep.refl (H : Hp) : Keep H H := ⟨fun _ _ e => .inl e, fun _ e => e⟩
theorem Keep.trans {H H1 H2 : Hp} (a : Keep H H1) (b : Keep H1 H2) : Keep H H2 :=
  ⟨fun c o e => by
    rcases a.k c o e with z | ⟨ps, ps', rfl, z⟩
    · exact b.k c o z
    · rcases b.k c _ z with y | ⟨qs, qs', _, y⟩
      · exact .inr ⟨ps, ps', rfl, y⟩
      · exact .inr ⟨ps, qs', rfl, y⟩, fun P e => b.t P (a.t P e)⟩
theorem Keep.at {H H' : Hp} (k : Keep H H') {b : Addr} {o : HO} (e : H b = some o) (ho : ∀ ps, o ≠ .tbl ps := by intro ps z; cases z) : H' b = some o := by
  rcases k.k b o e with z | ⟨ps, ps', z, _⟩
  · exact z
  · exact absurd z (ho ps)
theorem Keep.none {H H' : Hp} (k : Keep H H') {p : Addr} (e : H' p = none) : H p = none := by
  cases z : H p with
  | none => rfl
  | some o => rcases k.k p o z with y | ⟨_, _, _, y⟩ <;> (rw [y] at e; cases e)
/-! ### heaps that grow: Hi what is never written (all values lean on it), H all -/
structure Ext (Hi H Hi' H' : Hp) : Prop where
  i : Same Hi Hi'
  h : Keep H H'
  s : Same Hi' H'
  n : ∀ b, Hi b = none → Hi' b ≠ none → H b = none
theorem Ext.refl {Hi H : Hp} (h : Same Hi H) : Ext Hi H Hi H := ⟨Same.refl _, Keep.refl _, h, fun _ e q => absurd e q⟩
theorem Ext.trans {Hi H Hi1 H1 Hi2 H2 : Hp} (a : Ext Hi H Hi1 H1) (b : Ext Hi1 H1 Hi2 H2) : Ext Hi H Hi2 H2 :=
  ⟨a.i.trans b.i, a.h.trans b.h, b.s, fun c e q => by
    cases z : Hi1 c with
    | some o => exact a.n c e (by rw [z]; exact fun w => by cases w)
    | none =>
      have z2 := b.n c z q
      exact a.h.none z2⟩
/-- a new object that is never written -/
theorem same_new' {H : Hp} {p : Addr} (h : H p = none) (o : HO) : Same H (upd H p o) := fun b u q => by rw [upd_ne (ne_of_none q h)]; exact q
theorem keep_new {H : Hp} {p : Addr} (h : H p = none) (o : HO) : Keep H (upd H p o) := ⟨fun b u q => .inl (same_new' h o b u q), fun P e => e.put (fun ps z => by rw [h] at z; cases z) (fun ob u z => by rw [h] at z; cases z)⟩
theorem _root_.L2.Same.none {H H' : Hp} (h : Same H H') {p : Addr} (e : H' p = none) : H p = none := by
  cases z : H p with
  | none => rfl
  | some o => rw [h _ _ z] at e; cases e
theorem Ext.new {Hi H : Hp} {p : Addr} {o : HO} (h : Same Hi H) (hp : H p = none) : Ext Hi H (upd Hi p o) (upd H p o) where
  i := same_new' (h.none hp) o
  h := keep_new hp o
  s := fun b u q => by
    by_cases e : b = p
    · subst e; rw [upd_same] at q ⊢; exact q
    · rw [upd_ne e] at q ⊢; exact h _ _ q
  n := fun b e q => by
    by_cases z : b = p
    · rw [z]; exact hp
    · rw [upd_ne z] at q; exact absurd e q
/-- a new object that may be written -/
theorem Ext.newF {Hi H : Hp} {p : Addr} {o : HO} (h : Same Hi H) (hp : H p = none) : Ext Hi H Hi (upd H p o) where
  i := Same.refl _
  h := keep_new hp o
  s := h.trans (same_new' hp o)
  n := fun b e q => absurd e q
theorem Ext.out {Hi H Hi' H' : Hp} (e : Ext Hi H Hi' H') {a : Addr} {o : HO} (h : H a = some o) (hi : Hi a = none) (ho : ∀ ps, o ≠ .tbl ps := by intro ps z; cases z) : H' a = some o ∧ Hi' a = none := by
  refine ⟨e.h.at h ho, ?_⟩
  cases z : Hi' a with
  | none => rfl
  | some u => have := e.n a hi (by rw [z]; exact fun w => by cases w); rw [h] at this; cases this
/-- it becomes one that is never written -/
theorem Ext.hold {Hi H Hi' H' : Hp} (e : Ext Hi H Hi' H') {a : Addr} {o : HO} (hn : H a = none) (h : H' a = some o) (hi : Hi' a = none) : Ext Hi H (upd Hi' a o) H' where
  i := e.i.trans (same_new' hi o)
  h := e.h
  s := fun b u q => by
    by_cases z : b = a
    · subst z; rw [upd_same] at q; cases q; exact h
    · rw [upd_ne z] at q; exact e.s _ _ q
  n := fun b z q => by
    by_cases w : b = a
    · rw [w]; exact hn
    · rw [upd_ne w] at q; exact e.n b z q
/-! ### names -/
/-- the object of an error of the class at C -/
noncomputable def excAt (a C : Addr) : Heap → Prop := fun h => ∃ o vs, h.get? a = some o ∧ o.cls = .ref C ∧ o.data = .fields vs
noncomputable def kvT (T : List (Str × Str)) : List (Key × V) := T.map fun q => (Sum.inr q.1, V.str q.2)
noncomputable def SlotOk (K : PySem.W.Frag) (mg : Str → Option Value) (B Hi H : Hp) (o : Option (Option V)) : Sl → Prop
  | .un => True
  | .val d => ∃ v, o = some (some v) ∧ IsD K Hi v d
  | .own ds => ∃ a xs, o = some (some (.ref a)) ∧ H a = some (.lst xs) ∧ Hi a = none ∧ B a = none ∧ IsDs K Hi xs ds
  | .exc c => ∃ a C, o = some (some (.ref a)) ∧ H a = some (.ext (excAt a C)) ∧ Hi a = none ∧ B a = none ∧ mg c = some (.ref C)
  | .tab T => ∃ a, o = some (some (.ref a)) ∧ Hi a = some (.dK (kvT T))
structure Rel (K : PySem.W.Frag) (mg : Str → Option Value) (B Bi Hi H : Hp) (σ : St) (ρ : Rho) : Prop where
  len : σ.length = ρ.length
  ext : Ext Bi B Hi H
  slot : ∀ (i : Nat) (s : Sl), ρ[i]? = some s → SlotOk K mg B Hi H σ[i]? s
  dist : ∀ (i j : Nat) (a : Addr) (ds es : List D), ρ[i]? = some (.own ds) → ρ[j]? = some (.own es) → σ[i]? = some (some (.ref a)) → σ[j]? = some (some (.ref a)) → i = j
section
variable {K : PySem.W.Frag} {mg : Str → Option Value} {B Bi Hi H Hi' H' : Hp} {σ : St} {ρ : Rho}
theorem SlotOk.ext {o : Option (Option V)} {s : Sl} (h : SlotOk K mg B Hi H o s) (e : Ext Hi H Hi' H') : SlotOk K mg B Hi' H' o s := by
  cases s with
  | un => trivial
  | val d => obtain ⟨v, q, r⟩ := h; exact ⟨v, q, r.mono e.i⟩
  | own ds =>
    obtain ⟨a, xs, q, h1, h2, h3, h4⟩ := h
    obtain ⟨e1, e2⟩ := e.out h1 h2
    exact ⟨a, xs, q, e1, e2, h3, h4.mono e.i⟩
  | exc c =>
    obtain ⟨a, C, q, h1, h2, h3, h4⟩ := h
    obtain ⟨e1, e2⟩ := e.out h1 h2
    exact ⟨a, C, q, e1, e2, h3, h4⟩
  | tab T => obtain ⟨a, q, h1⟩ := h; exact ⟨a, q, e.i _ _ h1⟩
theorem Rel.grow (R : Rel K mg B Bi Hi H σ ρ) (e : Ext Hi H Hi' H') : Rel K mg B Bi Hi' H' σ ρ := ⟨R.len, R.ext.trans e, fun i s q => (R.slot i s q).ext e, R.dist⟩
theorem Rel.s (R : Rel K mg B Bi Hi H σ ρ) : Same Hi H := R.ext.s
/-- a name is bound anew -/
theorem Rel.set {i : Nat} {v : V} {d : D} (R : Rel K mg B Bi Hi H σ ρ) (h : IsD K Hi v d) : Rel K mg B Bi Hi H (σ.set i (some v)) (ρ.set i (.val d)) where
  len := by rw [List.length_set, List.length_set]; exact R.len
  ext := R.ext
  slot := fun j s q => by
    by_cases e : i = j
    · subst e
      by_cases hl : i < ρ.length
      · rw [List.getElem?_set_self hl] at q; cases q
        exact ⟨v, by rw [List.getElem?_set_self (by rw [R.len]; exact hl)], h⟩
      · rw [List.getElem?_eq_none (by rw [List.length_set]; omega)] at q; cases q
    · rw [List.getElem?_set_ne e] at q ⊢
      exact R.slot j s q
  dist := fun j k a ds es q1 q2 q3 q4 => by
    have h1 : ∀ {j : Nat} {ds : List D}, (ρ.set i (.val d))[j]? = some (.own ds) → i ≠ j := fun {j ds} q e => by
      subst e
      by_cases hl : i < ρ.length
      · rw [List.getElem?_set_self hl] at q; cases q
      · rw [List.getElem?_eq_none (by rw [List.length_set]; omega)] at q; cases q
    have n1 := h1 q1
    have n2 := h1 q2
    rw [List.getElem?_set_ne n1] at q1 q3
    rw [List.getElem?_set_ne n2] at q2 q4
    exact R.dist j k a ds es q1 q2 q3 q4
/-- a name is bound to a new list -/
theorem Rel.setOwn {i : Nat} {a : Addr} {xs : List V} {ds : List D} (R : Rel K mg B Bi Hi H σ ρ) (e : Ext Hi H Hi' H') (hn : H a = none) (h : H' a = some (.lst xs)) (hi : Hi' a = none) (hs : IsDs K Hi' xs ds) :
    Rel K mg B Bi Hi' H' (σ.set i (some (.ref a))) (ρ.set i (.own ds)) where
  len := by rw [List.length_set, List.length_set]; exact R.len
  ext := R.ext.trans e
  slot := fun j s q => by
    by_cases z : i = j
    · subst z
      by_cases hl : i < ρ.length
      · rw [List.getElem?_set_self hl] at q; cases q
        exact ⟨a, xs, by rw [List.getElem?_set_self (by rw [R.len]; exact hl)], h, hi, R.ext.h.none hn, hs⟩
      · rw [List.getElem?_eq_none (by rw [List.length_set]; omega)] at q; cases q
    · rw [List.getElem?_set_ne z] at q ⊢
      exact (R.slot j s q).ext e
  dist := fun j k b es fs q1 q2 q3 q4 => by
    -- an own list of another name stands elsewhere
    have h1 : ∀ {j : Nat} {es : List D}, i ≠ j → ρ[j]? = some (.own es) → σ[j]? = some (some (.ref a)) → False := fun {j es} _ p1 p2 => by
      obtain ⟨a', xs', q, h1, _⟩ := R.slot j _ p1
      rw [p2] at q
      cases q
      rw [hn] at h1; cases h1
    have h2 : ∀ {j : Nat} {es : List D}, (ρ.set i (.own ds))[j]? = some (.own es) → i < σ.length ∨ i ≠ j := fun {j es} p => by
      by_cases z : i = j
      · subst z
        by_cases hl : i < ρ.length
        · exact .inl (by rw [R.len]; exact hl)
        · rw [List.getElem?_eq_none (by rw [List.length_set]; omega)] at p; cases p
      · exact .inr z
    by_cases z1 : i = j
    · by_cases z2 : i = k
      · rw [← z1, ← z2]
      · exfalso
        subst z1
        have hl : i < σ.length := (h2 q1).resolve_right (fun w => w rfl)
        rw [List.getElem?_set_self hl] at q3; cases q3
        rw [List.getElem?_set_ne z2] at q2 q4
        exact h1 z2 q2 q4
    · by_cases z2 : i = k
      · exfalso
        subst z2
        have hl : i < σ.length := (h2 q2).resolve_right (fun w => w rfl)
        rw [List.getElem?_set_self hl] at q4; cases q4
        rw [List.getElem?_set_ne z1] at q1 q3
        exact h1 z1 q1 q3
      · rw [List.getElem?_set_ne z1] at q1 q3
        rw [List.getElem?_set_ne z2] at q2 q4
        exact R.dist j k b es fs q1 q2 q3 q4
/-- an own list is written -/
theorem Rel.write {i : Nat} {a : Addr} {ys : List V} {ds es : List D} (R : Rel K mg B Bi Hi H σ ρ) (e : ρ[i]? = some (.own ds)) (ea : σ[i]? = some (some (.ref a))) (hs : IsDs K Hi ys es) :
    Rel K mg B Bi Hi (upd H a (.lst ys)) σ (ρ.set i (.own es)) := by
  obtain ⟨a', xs', q, h1, h2, h3, h4⟩ := R.slot i _ e
  rw [ea] at q
  cases q
  have hl : i < ρ.length := by
    by_cases hl : i < ρ.length
    · exact hl
    · rw [List.getElem?_eq_none (by omega)] at e; cases e
  refine ⟨by rw [List.length_set]; exact R.len, ⟨R.ext.i, ⟨fun b o z => ?_, fun P z => (R.ext.h.t P z).put (fun ps y => by rw [h1] at y; cases y) (fun ob u y => by rw [h1] at y; cases y)⟩, fun b o z => ?_, R.ext.n⟩, fun j s z => ?_, fun j k b fs gs q1 q2 q3 q4 => ?_⟩
  · rw [upd_ne (ne_of_none z h3)]; exact R.ext.h.k _ _ z
  · rw [upd_ne (ne_of_none z h2)]; exact R.ext.s _ _ z
  · by_cases w : i = j
    · subst w
      rw [List.getElem?_set_self hl] at z; cases z
      exact ⟨a, ys, ea, upd_same, h2, h3, hs⟩
    · rw [List.getElem?_set_ne w] at z
      have S := R.slot j s z
      cases s with
      | un => trivial
      | val d => exact S
      | own fs =>
        obtain ⟨b, zs, p, g1, g2, g3, g4⟩ := S
        have hb : b ≠ a := fun c => w (R.dist i j a ds fs e z ea (by rw [p, c]))
        exact ⟨b, zs, p, by rw [upd_ne hb]; exact g1, g2, g3, g4⟩
      | exc c =>
        obtain ⟨b, C, p, g1, g2, g3, g4⟩ := S
        have hb : b ≠ a := ne_of g1 h1 (by intro z; cases z)
        exact ⟨b, C, p, by rw [upd_ne hb]; exact g1, g2, g3, g4⟩
      | tab T => exact S
  · have own : ∀ {j : Nat} {fs : List D}, (ρ.set i (.own es))[j]? = some (.own fs) → ∃ gs, ρ[j]? = some (.own gs) := fun {j fs} p => by
      by_cases w : i = j
      · subst w; exact ⟨ds, e⟩
      · rw [List.getElem?_set_ne w] at p; exact ⟨fs, p⟩
    obtain ⟨fs', q1'⟩ := own q1
    obtain ⟨gs', q2'⟩ := own q2
    exact R.dist j k b fs' gs' q1' q2' q3 q4
end
end L3

namespace L3
open PySem PySem.Spec PyProof.Rows L2
section
variable {K : PySem.W.Frag} {mg : Str → Option Value} {B Bi Hi H Hi' H' : Hp} {σ : St} {ρ : Rho}
/-- all own lists seen as values for a while -/
theorem Rel.frz (R : Rel K mg B Bi Hi H σ ρ) : ∃ Hf, Same Hi Hf ∧ Rel K mg B Bi Hf H σ (ρ.map Sl.frz) ∧ ∀ b, Hi b = none → Hf b ≠ none → ∃ xs, Hf b = some (.lst xs) := by
  let own : Addr → Prop := fun b => ∃ (i : Nat) (ds : List D), ρ[i]? = some (.own ds) ∧ σ[i]? = some (some (.ref b))
  have dec : ∀ b, Decidable (own b) := fun b => Classical.propDecidable _
  let Hf : Hp := fun b => match Hi b with
    | some o => some o
    | none => if own b then H b else none
  have hf1 : ∀ b o, Hi b = some o → Hf b = some o := fun b o e => by show (match Hi b with | some o => some o | none => if own b then H b else none) = _; rw [e]
  have hf2 : ∀ b, Hi b = none → own b → Hf b = H b := fun b e z => by show (match Hi b with | some o => some o | none => if own b then H b else none) = _; rw [e]; exact if_pos z
  have hf3 : ∀ b, Hi b = none → ¬ own b → Hf b = none := fun b e z => by show (match Hi b with | some o => some o | none => if own b then H b else none) = _; rw [e]; exact if_neg z
  have lst : ∀ b, own b → ∃ xs, H b = some (.lst xs) ∧ Hi b = none ∧ B b = none := fun b ⟨i, ds, e1, e2⟩ => by
    obtain ⟨a, xs, q, h1, h2, h3, h4⟩ := R.slot i _ e1
    rw [e2] at q; cases q
    exact ⟨xs, h1, h2, h3⟩
  have ss : Same Hf H := fun b o z => by
    cases q : Hi b with
    | some u => rw [hf1 b u q] at z; cases z; exact R.s _ _ q
    | none =>
      by_cases w : own b
      · rw [hf2 b q w] at z; exact z
      · rw [hf3 b q w] at z; cases z
  refine ⟨Hf, hf1, ⟨by rw [List.length_map]; exact R.len, ⟨R.ext.i.trans hf1, R.ext.h, ss, fun b z w => ?_⟩, fun j s z => ?_, fun j k b fs gs q1 q2 q3 q4 => ?_⟩, fun b z w => ?_⟩
  · cases q : Hi b with
    | some u => exact R.ext.n b z (by rw [q]; exact fun c => by cases c)
    | none =>
      by_cases c : own b
      · exact (lst b c).choose_spec.2.2
      · exact absurd (hf3 b q c) w
  · rw [List.getElem?_map] at z
    cases e : ρ[j]? with
    | none => rw [e] at z; cases z
    | some t =>
      rw [e] at z
      cases z
      have S := R.slot j t e
      cases t with
      | un => trivial
      | val d => obtain ⟨v, p, r⟩ := S; exact ⟨v, p, r.mono hf1⟩
      | own ds =>
        obtain ⟨a, xs, q, h1, h2, h3, h4⟩ := S
        exact ⟨.ref a, q, .lst (SqL.of (by rw [hf2 a h2 ⟨j, ds, e, q⟩]; exact h1)) (h4.mono hf1)⟩
      | exc c =>
        obtain ⟨a, C, q, h1, h2, h3, h4⟩ := S
        refine ⟨a, C, q, h1, ?_, h3, h4⟩
        refine hf3 a h2 fun c => ?_
        obtain ⟨xs, g, _⟩ := lst a c
        rw [h1] at g; cases g
      | tab T => obtain ⟨a, q, h1⟩ := S; exact ⟨a, q, hf1 _ _ h1⟩
  · exfalso
    rw [List.getElem?_map] at q1
    cases e : ρ[j]? with
    | none => rw [e] at q1; cases q1
    | some t => rw [e] at q1; cases t <;> cases q1
  · by_cases c : own b
    · obtain ⟨xs, g, _⟩ := lst b c
      exact ⟨xs, by rw [hf2 b z c]; exact g⟩
    · exact absurd (hf3 b z c) w
/-- back from there -/
theorem Ext.thaw {Hf : Hp} (s : Same Hi Hf) (fl : ∀ b, Hi b = none → Hf b ≠ none → ∃ xs, Hf b = some (.lst xs)) (hs : Same Hf H) (e : Ext Hf H Hi' H') :
    ∃ Ht, Ext Hi H Ht H' ∧ (∀ b xs, Rd Hi' b (.tup xs) → Rd Ht b (.tup xs)) ∧ Same Ht Hi' ∧ ∀ b, Ht b = none → Hi' b = none ∨ ∃ xs, H b = some (.lst xs) := by
  have dec : ∀ b, Decidable (Hi b = none ∧ Hf b ≠ none) := fun b => Classical.propDecidable _
  let Ht : Hp := fun b => if Hi b = none ∧ Hf b ≠ none then none else Hi' b
  have t1 : ∀ b, ¬ (Hi b = none ∧ Hf b ≠ none) → Ht b = Hi' b := fun b z => if_neg z
  have t2 : ∀ b, (Hi b = none ∧ Hf b ≠ none) → Ht b = none := fun b z => if_pos z
  have tt : Same Ht Hi' := fun b o z => by
    by_cases w : Hi b = none ∧ Hf b ≠ none
    · rw [t2 b w] at z; cases z
    · rw [t1 b w] at z; exact z
  refine ⟨Ht, ⟨fun b o z => ?_, e.h, tt.trans e.s, fun b z w => ?_⟩, fun b xs r => ?_, tt, fun b z => ?_⟩
  · rw [t1 b (fun w => by rw [z] at w; cases w.1)]; exact e.i _ _ (s _ _ z)
  · by_cases c : Hi b = none ∧ Hf b ≠ none
    · exact absurd (t2 b c) w
    · rw [t1 b c] at w
      have : Hf b = none := by
        cases q : Hf b with
        | none => rfl
        | some u => exact absurd ⟨z, by rw [q]; exact fun c => by cases c⟩ c
      exact e.n b this w
  · have nl : ¬ (Hi b = none ∧ Hf b ≠ none) := fun w => by
      obtain ⟨ys, g⟩ := fl b w.1 w.2
      have g' := e.i _ _ g
      rcases r with r | ⟨o, r⟩ <;> (rw [g'] at r; cases r)
    rcases r with r | ⟨o, r⟩
    · exact .inl (by rw [t1 b nl]; exact r)
    · exact .inr ⟨o, by rw [t1 b nl]; exact r⟩
  · by_cases c : Hi b = none ∧ Hf b ≠ none
    · obtain ⟨ys, g⟩ := fl b c.1 c.2
      exact .inr ⟨ys, hs _ _ g⟩
    · exact .inl (by rw [t1 b c] at z; exact z)
end
/-! ### the readings -/
/-- what stands around a body: the heap at its entry, what of it is never written, and what is wanted of an error -/
structure Gx where
  B : Hp
  Bi : Hp
  E : Str → Hp → Prop
noncomputable abbrev RelX (X : Cx) (G : Gx) (Hi H : Hp) (σ : St) (ρ : Rho) : Prop := Rel X.K X.mg G.B G.Bi Hi H σ ρ
noncomputable def Out (G : Gx) (Hi H : Hp) {α : Type} (r : Res α) (k : α → Hp → Hp → Prop) : Prop := match r with
  | .ok a => ∀ Hi' H', Ext Hi H Hi' H' → k a Hi' H'
  | .err c => ∀ Hi' H', Ext Hi H Hi' H' → G.E c H'
  | .no => False
theorem Out.bind {G : Gx} {Hi H : Hp} {α β : Type} {r : Res α} {f : α → Res β} {k : β → Hp → Hp → Prop} (h : Out G Hi H (r.bind f) k) :
    Out G Hi H r fun a Hi' H' => Out G Hi' H' (f a) k := by
  cases r with
  | no => exact h
  | err c => exact h
  | ok a =>
    intro Hi1 H1 e
    have h' : Out G Hi H (f a) k := h
    show Out G Hi1 H1 (f a) k
    cases q : f a with
    | no => rw [q] at h'; exact h'
    | err c => rw [q] at h'; exact fun Hi2 H2 e2 => h' _ _ (e.trans e2)
    | ok b => rw [q] at h'; exact fun Hi2 H2 e2 => h' _ _ (e.trans e2)
theorem Out.imp {G : Gx} {Hi H : Hp} {α : Type} {r : Res α} {k k' : α → Hp → Hp → Prop} (h : Out G Hi H r k) (f : ∀ a Hi' H', Ext Hi H Hi' H' → k a Hi' H' → k' a Hi' H') : Out G Hi H r k' := by
  cases r with
  | no => exact h
  | err c => exact h
  | ok a => exact fun Hi1 H1 e => f a Hi1 H1 e (h Hi1 H1 e)
/-- now, as it stands -/
theorem Out.here {G : Gx} {Hi H : Hp} {α : Type} {a : α} {k : α → Hp → Hp → Prop} (h : Out G Hi H (.ok a) k) (s : Same Hi H) : k a Hi H := h Hi H (Ext.refl s)
noncomputable def tD (X : Cx) (G : Gx) (f : Ev) : TE := fun σ H Q => ∃ ρ Hi, RelX X G Hi H σ ρ ∧ Out G Hi H (f ρ) fun d Hi' H' => ∀ v, IsD X.K Hi' v d → Q v H'
/-- a new list: at a, may be written -/
noncomputable def NewL (K : PySem.W.Frag) (H Hi' H' : Hp) (a : Addr) (ds : List D) : Prop := H a = none ∧ Hi' a = none ∧ ∃ xs, H' a = some (.lst xs) ∧ IsDs K Hi' xs ds
noncomputable def tF (X : Cx) (G : Gx) (f : Fv) : TE := fun σ H Q => ∃ ρ Hi, RelX X G Hi H σ ρ ∧ Out G Hi H (f ρ) fun ds Hi' H' => ∀ a, NewL X.K H Hi' H' a ds → Q (.ref a) H'
noncomputable def tTb (X : Cx) (G : Gx) (f : Tv) : TT := fun σ H Q => ∃ ρ Hi, RelX X G Hi H σ ρ ∧ Out G Hi H (f ρ) fun b _ H' => Q b H'
noncomputable def tAs (X : Cx) (G : Gx) (f : Fv) : TA := fun σ H Q => ∃ ρ Hi, RelX X G Hi H σ ρ ∧ Out G Hi H (f ρ) fun ds Hi' H' => ∀ vs, IsDs X.K Hi' vs ds → Q vs H'
noncomputable def Fin (X : Cx) (G : Gx) (Hi : Hp) (E : Ends) (r : Res Fl) : Prop := match r with
  | .ok (.nx ρ') => ∀ σ' Hi' H', Same Hi Hi' → RelX X G Hi' H' σ' ρ' → E.nx σ' H'
  | .ok (.brk ρ') => ∀ σ' Hi' H', Same Hi Hi' → RelX X G Hi' H' σ' ρ' → E.bk σ' H'
  | .ok (.ctn ρ') => ∀ σ' Hi' H', Same Hi Hi' → RelX X G Hi' H' σ' ρ' → E.ct σ' H'
  | .ok (.ret (.v d)) => ∀ v Hi' H', Ext G.Bi G.B Hi' H' → IsD X.K Hi' v d → E.rt v H'
  | .ok (.ret (.f ds)) => ∀ a Hi' H', Ext G.Bi G.B Hi' H' → NewL X.K G.B Hi' H' a ds → E.rt (.ref a) H'
  | .err c => ∀ Hi' H', Ext G.Bi G.B Hi' H' → G.E c H'
  | .no => False
theorem Fin.mono {X : Cx} {G : Gx} {Hi Hi' : Hp} {E : Ends} {r : Res Fl} (h : Fin X G Hi E r) (s : Same Hi Hi') : Fin X G Hi' E r := by
  cases r with
  | no => exact h
  | err c => exact h
  | ok f =>
    cases f with
    | nx ρ => exact fun σ' Hi2 H2 s2 => h σ' Hi2 H2 (s.trans s2)
    | brk ρ => exact fun σ' Hi2 H2 s2 => h σ' Hi2 H2 (s.trans s2)
    | ctn ρ => exact fun σ' Hi2 H2 s2 => h σ' Hi2 H2 (s.trans s2)
    | ret r => cases r <;> exact h
noncomputable def tS (X : Cx) (G : Gx) (f : Sv) : TS := fun E σ H => ∃ ρ Hi, RelX X G Hi H σ ρ ∧ Fin X G Hi E (f ρ)
@[irreducible] noncomputable def PEd (X : Cx) (G : Gx) (e : Expr) (f : Ev) : Prop := PE X e (tD X G f)
unseal PEd
@[irreducible] noncomputable def PEf (X : Cx) (G : Gx) (e : Expr) (f : Fv) : Prop := PE X e (tF X G f)
unseal PEf
@[irreducible] noncomputable def PTd (X : Cx) (G : Gx) (e : Expr) (f : Tv) : Prop := PT X e (tTb X G f)
unseal PTd
@[irreducible] noncomputable def PWd (X : Cx) (G : Gx) (e : Expr) (f : Tv) : Prop := PW X e (tTb X G f)
unseal PWd
@[irreducible] noncomputable def PAd (X : Cx) (G : Gx) (es : List Expr) (f : Fv) : Prop := PA X es (tAs X G f)
unseal PAd
@[irreducible] noncomputable def PSd (X : Cx) (G : Gx) (s : Stmt) (f : Sv) : Prop := PS X s (tS X G f)
unseal PSd
@[irreducible] noncomputable def PSsd (X : Cx) (G : Gx) (s : List Stmt) (f : Sv) : Prop := PSs X s (tS X G f)
unseal PSsd
theorem PE.wk {X : Cx} {e : Expr} {t t' : TE} (h : PE X e t) (w : ∀ σ H Q, t' σ H Q → t σ H Q) : PE X e t' := fun pins s σ H Q I q => h pins s σ H Q I (w σ H Q q)
theorem PT.wk {X : Cx} {e : Expr} {t t' : TT} (h : PT X e t) (w : ∀ σ H Q, t' σ H Q → t σ H Q) : PT X e t' := fun pins s σ H Q I q => h pins s σ H Q I (w σ H Q q)
theorem PW.wk {X : Cx} {e : Expr} {t t' : TT} (h : PW X e t) (w : ∀ σ H Q, t' σ H Q → t σ H Q) : PW X e t' := fun wh pins s σ H Q I q => h wh pins s σ H Q I (w σ H Q q)
theorem PA.wk {X : Cx} {es : List Expr} {t t' : TA} (h : PA X es t) (w : ∀ σ H Q, t' σ H Q → t σ H Q) : PA X es t' := fun pos pins s σ H Q I q => h pos pins s σ H Q I (w σ H Q q)
theorem PS.wk {X : Cx} {s : Stmt} {t t' : TS} (h : PS X s t) (w : ∀ E σ H, t' E σ H → t E σ H) : PS X s t' := fun pins s σ H E I q => h pins s σ H E I (w E σ H q)
theorem PSs.wk {X : Cx} {s : List Stmt} {t t' : TS} (h : PSs X s t) (w : ∀ E σ H, t' E σ H → t E σ H) : PSs X s t' := fun pins s σ H E I q => h pins s σ H E I (w E σ H q)
/-! ### expressions -/
section
variable {X : Cx} {G : Gx} {a b e : Expr} {es : List Expr} {pos : Pos} {f g : Ev}
theorem pd_var (i : Nat) (h : PE X e (tVar i)) : PEd X G e (eVar i) := PE.wk h fun σ H Q q => by
  obtain ⟨ρ, Hi, R, o⟩ := q
  unfold eVar at o
  cases z : ρ[i]? with
  | none => rw [z] at o; exact o.elim
  | some s =>
    rw [z] at o
    cases s with
    | val d =>
      obtain ⟨v, p, r⟩ := R.slot i _ z
      exact ⟨v, p, o.here R.s v r⟩
    | un => exact o.elim
    | own ds => exact o.elim
    | exc c => exact o.elim
    | tab T => exact o.elim
theorem pd_c {v : V} {d : D} (h : PE X e (tC v)) (r : ∀ H, IsD X.K H v d) : PEd X G e (eC d) := PE.wk h fun σ H Q q => by
  obtain ⟨ρ, Hi, R, o⟩ := q
  exact o.here R.s v (r Hi)
/-- a value and what comes of it -/
theorem out2 {Hi H : Hp} {σ : St} {ρ : Rho} {β : Type} {k : D → Res β} {k' : β → Hp → Hp → Prop} {Q : VK} (R : RelX X G Hi H σ ρ) (o : Out G Hi H ((f ρ).bind k) k')
    (w : ∀ v d Hi' H', Ext Hi H Hi' H' → RelX X G Hi' H' σ ρ → IsD X.K Hi' v d → Out G Hi' H' (k d) k' → Q v H') : tD X G f σ H Q :=
  ⟨ρ, Hi, R, o.bind.imp fun d Hi' H' e q v r => w v d Hi' H' e (R.grow e) r q⟩
noncomputable def OpK (X : Cx) (r : R2) (o : Op2) : Prop := (∀ a b c, o a b ≠ .err c) ∧ ∀ (Hi H : Hp) (x y : V) (a b d : D) (Q : VK), Same Hi H → IsD X.K Hi x a → IsD X.K Hi y b → o a b = .ok d →
  (∀ v Hi' H', Ext Hi H Hi' H' → IsD X.K Hi' v d → Q v H') → r x y H Q
theorem op2 {r : R2} {o : Op2} (k : OpK X r o) : ∀ σ H Q, tD X G (eOp o f g) σ H Q → tOp r (tD X G f) (tD X G g) σ H Q := fun σ H Q q => by
  obtain ⟨ρ, Hi, R, ou⟩ := q
  refine out2 R ou fun v d Hi1 H1 e1 R1 r1 o1 => ?_
  refine out2 R1 o1 fun w d' Hi2 H2 e2 R2 r2 o2 => ?_
  cases z : o d d' with
  | no => rw [z] at o2; exact o2.elim
  | err c => exact absurd z (k.1 d d' c)
  | ok u =>
    rw [z] at o2
    exact k.2 Hi2 H2 v w d d' u Q R2.s (r1.mono e2.i) r2 z fun x Hi3 H3 e3 r3 => o2 Hi3 H3 e3 x r3
theorem pd_op {op : Operator} {r : R2} {o : Op2} (ho : OpR X (binaryOp op) r) (k : OpK X r o) (ha : PEd X G a f) (hb : PEd X G b g) : PEd X G (.BinOp a op b pos) (eOp o f g) := PE.wk (pe_op ho ha hb) (op2 k)
theorem pd_cmp {op : CmpOp} {r : R2} {o : Op2} (ho : OpR X (compareOp op) r) (k : OpK X r o) (ha : PEd X G a f) (hb : PEd X G b g) (hm : behindInMarks op b = false) : PEd X G (.Compare a [op] [b] pos) (eOp o f g) := PE.wk (pe_cmpR ho ha hb hm) (op2 k)
theorem pd_ix {r : R2} {o : Op2} (ho : IxR X r) (k : OpK X r o) (ha : PEd X G a f) (hb : PEd X G b g) (hs : PlainIx b) : PEd X G (.Subscript a b pos) (eOp o f g) := PE.wk (pe_ix ho ha hb hs) (op2 k)
theorem tst {op : CmpOp} {r : R2} {o : Op2} (ho : OpR X (compareOp op) r) (k : OpK X r o) (ha : PEd X G a f) (hb : PEd X G b g) (hm : behindInMarks op b = false) : PTd X G (.Compare a [op] [b] pos) (tVal (eOp o f g)) :=
  PT.wk (pt_cmpR ho ha hb hm) fun σ H Q q => by
    obtain ⟨ρ, Hi, R, ou⟩ := q
    refine op2 k σ H _ ⟨ρ, Hi, R, ou.bind.imp fun d Hi' H' e o v r => ?_⟩
    cases d with
    | bl c => rw [r.blI]; exact ⟨c, rfl, o.here e.s⟩
    | _ => exact o.elim
theorem pt_v (h : PEd X G a f) (he : ∀ whole, isTrue a X.env whole = (do let v ← whole; standAt a.pos; holding [v] (truthy v)) := by intro _; rfl) : PTd X G a (tVal f) := PT.wk (pt_val h he) fun σ H Q q => by
  obtain ⟨ρ, Hi, R, ou⟩ := q
  refine ⟨ρ, Hi, R, ou.bind.imp fun d Hi' H' e o v r => ?_⟩
  cases d with
  | bl c => rw [r.blI]; exact ⟨c, rfl, o.here e.s⟩
  | _ => exact o.elim
variable {t u : Tv}
/-- a test and what comes of it -/
theorem outT {Hi H : Hp} {σ : St} {ρ : Rho} {β : Type} {k : Bool → Res β} {k' : β → Hp → Hp → Prop} {Q : Bool → Hp → Prop} (R : RelX X G Hi H σ ρ) (o : Out G Hi H ((t ρ).bind k) k')
    (w : ∀ c Hi' H', Ext Hi H Hi' H' → RelX X G Hi' H' σ ρ → Out G Hi' H' (k c) k' → Q c H') : tTb X G t σ H Q :=
  ⟨ρ, Hi, R, o.bind.imp fun d Hi' H' e q => w d Hi' H' e (R.grow e) q⟩
theorem pt_n (h : PTd X G a t) : PTd X G (.UnaryOp .Not a pos) (tNotB t) := PT.wk (pt_not h) fun σ H Q q => by
  obtain ⟨ρ, Hi, R, ou⟩ := q
  exact outT R ou fun c Hi1 H1 e1 R1 o1 => o1.here R1.s
theorem w_and1 (h : PTd X G a t) : PWd X G (.BoolOp .And [a] pos) t := pw_and1 h
theorem w_or1 (h : PTd X G a t) : PWd X G (.BoolOp .Or [a] pos) t := pw_or1 h
theorem w_and {rest : List Expr} (ha : PTd X G a t) (hb : PWd X G (.BoolOp .And (b :: rest) pos) u) : PWd X G (.BoolOp .And (a :: b :: rest) pos) (tAndB t u) := PW.wk (pw_and ha hb) fun σ H Q q => by
  obtain ⟨ρ, Hi, R, ou⟩ := q
  refine outT R ou fun c Hi1 H1 e1 R1 o1 => ?_
  cases c with
  | true => exact ⟨ρ, Hi1, R1, o1⟩
  | false => exact o1.here R1.s
theorem w_or {rest : List Expr} (ha : PTd X G a t) (hb : PWd X G (.BoolOp .Or (b :: rest) pos) u) : PWd X G (.BoolOp .Or (a :: b :: rest) pos) (tOrB t u) := PW.wk (pw_or ha hb) fun σ H Q q => by
  obtain ⟨ρ, Hi, R, ou⟩ := q
  refine outT R ou fun c Hi1 H1 e1 R1 o1 => ?_
  cases c with
  | true => exact o1.here R1.s
  | false => exact ⟨ρ, Hi1, R1, o1⟩
theorem PWd.pt {e : Expr} (h : PWd X G e t) : PTd X G e t := PW.pt h
theorem pd_one {op} (h : PEd X G a f) : PEd X G (.BoolOp op [a] pos) f := pe_one h
theorem pd_and {rest : List Expr} (ha : PEd X G a f) (hb : PEd X G (.BoolOp .And (b :: rest) pos) g) : PEd X G (.BoolOp .And (a :: b :: rest) pos) (eAnd f g) := PE.wk (pe_and ha hb) fun σ H Q q => by
  obtain ⟨ρ, Hi, R, ou⟩ := q
  refine out2 R ou fun v d Hi1 H1 e1 R1 r1 o1 => ?_
  cases d with
  | bl c =>
    refine ⟨c, r1.blI, ?_⟩
    cases c with
    | true => exact ⟨ρ, Hi1, R1, o1⟩
    | false => exact o1.here R1.s _ (.bl false)
  | _ => exact o1.elim
theorem pd_or {rest : List Expr} (ha : PEd X G a f) (hb : PEd X G (.BoolOp .Or (b :: rest) pos) g) : PEd X G (.BoolOp .Or (a :: b :: rest) pos) (eOr f g) := PE.wk (pe_or ha hb) fun σ H Q q => by
  obtain ⟨ρ, Hi, R, ou⟩ := q
  refine out2 R ou fun v d Hi1 H1 e1 R1 r1 o1 => ?_
  cases d with
  | bl c =>
    refine ⟨c, r1.blI, ?_⟩
    cases c with
    | true => exact o1.here R1.s _ (.bl true)
    | false => exact ⟨ρ, Hi1, R1, o1⟩
  | _ => exact o1.elim
theorem pd_neg (ha : PEd X G a f) : PEd X G (.UnaryOp .USub a pos) (eUn oNeg f) := PE.wk (pe_un un_neg ha) fun σ H Q q => by
  obtain ⟨ρ, Hi, R, ou⟩ := q
  refine out2 R ou fun v d Hi1 H1 e1 R1 r1 o1 => ?_
  cases d with
  | int c => exact ⟨c, r1.intI, o1.here R1.s _ (.int _)⟩
  | _ => exact o1.elim
theorem pd_if {c : Expr} (hc : PTd X G c t) (ha : PEd X G a f) (hb : PEd X G b g) : PEd X G (.IfExp c a b pos) (eIf t f g) := PE.wk (pe_ifExp hc ha hb) fun σ H Q q => by
  obtain ⟨ρ, Hi, R, ou⟩ := q
  refine outT R ou fun c Hi1 H1 e1 R1 o1 => ?_
  cases c with
  | true => exact ⟨ρ, Hi1, R1, o1⟩
  | false => exact ⟨ρ, Hi1, R1, o1⟩
variable {fs : Fv}
theorem as_nil : PAd X G [] aNil := PA.wk pa_nil fun σ H Q q => by
  obtain ⟨ρ, Hi, R, ou⟩ := q
  exact ou.here R.s [] .nil
theorem as_cons (ha : PEd X G e f) (hr : PAd X G es fs) (hs : starEach (e :: es) X.env = (false, eval e X.env) :: starEach es X.env := by rfl) : PAd X G (e :: es) (aCons f fs) := PA.wk (pa_cons ha hr hs) fun σ H Q q => by
  obtain ⟨ρ, Hi, R, ou⟩ := q
  refine out2 R ou fun v d Hi1 H1 e1 R1 r1 o1 => ?_
  refine ⟨ρ, Hi1, R1, o1.bind.imp fun ds Hi2 H2 e2 o2 vs rs => ?_⟩
  exact o2.here e2.s _ (.cons (r1.mono e2.i) rs)
/-- arguments and what comes of them -/
theorem outA {Hi H : Hp} {σ : St} {ρ : Rho} {β : Type} {k : List D → Res β} {k' : β → Hp → Hp → Prop} {Q : List V → Hp → Prop} (R : RelX X G Hi H σ ρ) (o : Out G Hi H ((fs ρ).bind k) k')
    (w : ∀ vs ds Hi' H', Ext Hi H Hi' H' → RelX X G Hi' H' σ ρ → IsDs X.K Hi' vs ds → Out G Hi' H' (k ds) k' → Q vs H') : tAs X G fs σ H Q :=
  ⟨ρ, Hi, R, o.bind.imp fun d Hi' H' e q v r => w v d Hi' H' e (R.grow e) r q⟩
theorem pd_tup {x1} (h : PAd X G es fs) : PEd X G (.Tuple es x1 pos) (eTup fs) := PE.wk (pe_tup h) fun σ H Q q => by
  obtain ⟨ρ, Hi, R, ou⟩ := q
  refine outA R ou fun vs ds Hi1 H1 e1 R1 r1 o1 => ?_
  by_cases hz : ds.length ≤ 16777216
  · rw [if_pos hz] at o1
    refine ⟨by rw [r1.length]; exact hz, fun p hp => ?_⟩
    exact o1 _ _ (Ext.new R1.s hp) (.ref p) (.tup (SqT.of upd_same) (r1.mono (same_new' (R1.s.none hp) _)))
  · rw [if_neg hz] at o1; exact o1.elim
theorem pf_lst (h : PAd X G es fs) : PEf X G (.List es pos) (fLst fs) := PE.wk (pe_lst h) fun σ H Q q => by
  obtain ⟨ρ, Hi, R, ou⟩ := q
  refine outA R ou fun vs ds Hi1 H1 e1 R1 r1 o1 => ?_
  by_cases hz : ds.length ≤ 16777216
  · rw [if_pos hz] at o1
    refine ⟨by rw [r1.length]; exact hz, fun p hp => ?_⟩
    exact o1 _ _ (Ext.newF R1.s hp) p ⟨e1.h.none hp, R1.s.none hp, vs, upd_same, r1⟩
  · rw [if_neg hz] at o1; exact o1.elim
/-- a new list as a value -/
theorem PEf.d (h : PEf X G e fs) : PEd X G e (eF fs) := PE.wk h fun σ H Q q => by
  obtain ⟨ρ, Hi, R, ou⟩ := q
  refine ⟨ρ, Hi, R, ?_⟩
  cases z : fs ρ with
  | no => unfold eF at ou; rw [z] at ou; exact ou
  | err c => unfold eF at ou; rw [z] at ou; exact ou
  | ok ds =>
    unfold eF at ou; rw [z] at ou
    intro Hi1 H1 e1 a n
    obtain ⟨n1, n2, xs, n3, n4⟩ := n
    have ou' : ∀ Hi' H', Ext Hi H Hi' H' → ∀ v, IsD X.K Hi' v (.lst ds) → Q v H' := ou
    exact ou' _ _ (e1.hold n1 n3 n2) (.ref a) (.lst (SqL.of upd_same) (n4.mono (same_new' n2 _)))
/-- within, own lists are values -/
theorem PEd.frz (h : PEd X G e f) : PEd X G e (eFrz f) := PE.wk h fun σ H Q q => by
  obtain ⟨ρ, Hi, R, ou⟩ := q
  obtain ⟨Hf, s1, R1, fl⟩ := R.frz
  refine ⟨ρ.map Sl.frz, Hf, R1, ?_⟩
  unfold eFrz at ou
  cases z : f (ρ.map Sl.frz) with
  | no => rw [z] at ou; exact ou
  | err c =>
    rw [z] at ou
    intro Hi1 H1 e1
    have ou' : ∀ Hi' H', Ext Hi H Hi' H' → G.E c H' := ou
    obtain ⟨Ht, e2, k, s2, n⟩ := Ext.thaw s1 fl R1.s e1
    exact ou' Ht H1 e2
  | ok d =>
    rw [z] at ou
    by_cases hz : noL d = true
    · have ou' : Out G Hi H (if noL d = true then Res.ok d else .no) _ := ou
      rw [if_pos hz] at ou'
      intro Hi1 H1 e1 v r
      obtain ⟨Ht, e2, k, s2, n⟩ := Ext.thaw s1 fl R1.s e1
      exact ou' Ht H1 e2 v (r.noL k hz)
    · have ou' : Out G Hi H (if noL d = true then Res.ok d else .no) _ := ou
      rw [if_neg hz] at ou'; exact ou'.elim
end
end L3

namespace L3
open PySem PySem.Spec PyProof.Rows L2
unseal PEd PEf PTd PWd PAd PSd PSsd
section
variable {X : Cx} {G : Gx} {a b e : Expr} {es : List Expr} {pos : Pos} {f g : Ev} {fs : Fv} {t u : Tv}
/-- within, own lists are values; a new list of what has no list -/
theorem PEf.frz (h : PEf X G e fs) : PEf X G e (fFrz fs) := PE.wk h fun σ H Q q => by
  obtain ⟨ρ, Hi, R, ou⟩ := q
  obtain ⟨Hf, s1, R1, fl⟩ := R.frz
  refine ⟨ρ.map Sl.frz, Hf, R1, ?_⟩
  unfold fFrz at ou
  cases z : fs (ρ.map Sl.frz) with
  | no => rw [z] at ou; exact ou
  | err c =>
    rw [z] at ou
    intro Hi1 H1 e1
    have ou' : ∀ Hi' H', Ext Hi H Hi' H' → G.E c H' := ou
    obtain ⟨Ht, e2, k, s2, n⟩ := Ext.thaw s1 fl R1.s e1
    exact ou' Ht H1 e2
  | ok ds =>
    rw [z] at ou
    have ou' : Out G Hi H (if noLs ds = true then Res.ok ds else .no) _ := ou
    by_cases hz : noLs ds = true
    · rw [if_pos hz] at ou'
      intro Hi1 H1 e1 a n
      obtain ⟨n1, n2, xs, n3, n4⟩ := n
      obtain ⟨Ht, e2, k, s2, _⟩ := Ext.thaw s1 fl R1.s e1
      exact ou' Ht H1 e2 a ⟨n1, s2.none n2, xs, n3, n4.noL k hz⟩
    · rw [if_neg hz] at ou'; exact ou'.elim
/-! ### operations -/
theorem OpR.or {o : Value → Value → Sem Value} {r r' : R2} (h : OpR X o r) (h' : OpR X o r') : OpR X o (fun x y H Q => r x y H Q ∨ r' x y H Q) := by
  intro pins s σ H x y v u Q I rx ry q
  rcases q with q | q
  · exact h pins s σ H x y v u Q I rx ry q
  · exact h' pins s σ H x y v u Q I rx ry q
/-- ints to an int -/
theorem opk_I0 {o : Op2} {h : Int → Int → Int} (hi : ∀ i j, o (.int i) (.int j) = .ok (.int (h i j))) (hn : ∀ a b d, o a b = .ok d → ∃ i j, a = .int i ∧ b = .int j) (he : ∀ a b c, o a b ≠ .err c) : OpK X (rI0 fun i j => .int (h i j)) o :=
  ⟨he, fun Hi H x y a b d Q s r1 r2 z q => by
    obtain ⟨i, j, rfl, rfl⟩ := hn a b d z
    rw [hi] at z; cases z
    exact ⟨i, j, r1.intI, r2.intI, q _ Hi H (Ext.refl s) (.int _)⟩⟩
theorem opk_B0 {o : Op2} {h : Int → Int → Bool} (hi : ∀ i j, o (.int i) (.int j) = .ok (.bl (h i j))) (hn : ∀ a b d, o a b = .ok d → ∃ i j, a = .int i ∧ b = .int j) (he : ∀ a b c, o a b ≠ .err c) : OpK X (rI0 fun i j => .bl (h i j)) o :=
  ⟨he, fun Hi H x y a b d Q s r1 r2 z q => by
    obtain ⟨i, j, rfl, rfl⟩ := hn a b d z
    rw [hi] at z; cases z
    exact ⟨i, j, r1.intI, r2.intI, q _ Hi H (Ext.refl s) (.bl _)⟩⟩
theorem k_sub : OpK X (rI0 fun i j => .int (i - j)) oSub := opk_I0 (fun _ _ => rfl) (fun a b d z => by unfold oSub at z; split at z <;> first | exact ⟨_, _, rfl, rfl⟩ | cases z) (fun a b c z => by unfold oSub at z; split at z <;> cases z)
theorem k_lt : OpK X (rI0 fun i j => .bl (decide (i < j))) oLt := opk_B0 (fun _ _ => rfl) (fun a b d z => by unfold oLt at z; split at z <;> first | exact ⟨_, _, rfl, rfl⟩ | cases z) (fun a b c z => by unfold oLt at z; split at z <;> cases z)
theorem k_gt : OpK X (rI0 fun i j => .bl (decide (j < i))) oGt := opk_B0 (fun _ _ => rfl) (fun a b d z => by unfold oGt at z; split at z <;> first | exact ⟨_, _, rfl, rfl⟩ | cases z) (fun a b c z => by unfold oGt at z; split at z <;> cases z)
/-- ints, guarded -/
theorem opk_I {o : Op2} {C : Int → Int → Prop} {h : Int → Int → Int} (hn : ∀ a b d, o a b = .ok d → ∃ i j, a = .int i ∧ b = .int j ∧ C i j ∧ d = .int (h i j)) (he : ∀ a b c, o a b ≠ .err c) : OpK X (rI C fun i j => .int (h i j)) o :=
  ⟨he, fun Hi H x y a b d Q s r1 r2 z q => by
    obtain ⟨i, j, rfl, rfl, hc, rfl⟩ := hn a b d z
    exact ⟨i, j, r1.intI, r2.intI, hc, q _ Hi H (Ext.refl s) (.int _)⟩⟩
noncomputable def CMulA (i j : Int) : Prop := okMul i j = true
theorem op_mulA : OpR X (binaryOp .Mult) (rI CMulA fun i j => .int (i * j)) := opI fun i j _ _ _ _ _ hc q => by
  have hc' : okMul i j = true := hc
  unfold okMul at hc'
  simp only [Bool.or_eq_true, Bool.and_eq_true, decide_eq_true_eq] at hc'
  rcases hc' with (⟨h1, h2⟩ | ⟨h1, h2⟩) | h
  · exact mul_int q (CMul.ok (.inl ⟨h1, h2⟩))
  · exact mul_int q (CMul.ok (.inr ⟨h1, h2⟩))
  · exact mul_int q (PySem.IntMulOk.of_le (PySem.intBits_le_iff.mpr (lt_nb i)) (PySem.intBits_le_iff.mpr (lt_nb j)) h)
noncomputable def CDivA (_ j : Int) : Prop := okDiv j = true
theorem op_divA : OpR X (binaryOp .FloorDiv) (rI CDivA fun i j => .int (i.fdiv j)) := opI fun i j _ _ _ _ _ hc q => by
  have hc' : okDiv j = true := hc
  unfold okDiv at hc'
  simp only [Bool.and_eq_true, decide_eq_true_eq] at hc'
  refine floordiv_int hc'.1 q (.inl (PyProof.noPylong_of_log2 ?_))
  have h2 := hc'.2
  unfold nb at h2
  omega
noncomputable def CPowA (i j : Int) : Prop := okPow i j = true
theorem op_powA : OpR X (binaryOp .Pow) (rI CPowA fun i j => .int (i ^ j.toNat)) := opI fun i j _ _ _ _ _ hc q => by
  have hc' : okPow i j = true := hc
  unfold okPow at hc'
  simp only [Bool.and_eq_true, decide_eq_true_eq] at hc'
  refine pow_int hc'.1 (Int.le_trans (Int.mul_le_mul_of_nonneg_right ?_ hc'.1) hc'.2) q
  have := PySem.intBits_le_iff.mpr (lt_nb i)
  omega
theorem k_mul : OpK X (rI CMulA fun i j => .int (i * j)) oMul := opk_I (fun a b d z => by
  unfold oMul at z
  split at z
  case h_2 => cases z
  rename_i i j
  have z' : (if okMul i j = true then Res.ok (D.int (i * j)) else .no) = .ok d := z
  by_cases h : okMul i j = true
  · rw [if_pos h] at z'; cases z'; exact ⟨i, j, rfl, rfl, h, rfl⟩
  · rw [if_neg h] at z'; cases z') (fun a b c z => by
  unfold oMul at z
  split at z
  case h_2 => cases z
  rename_i i j
  have z' : (if okMul i j = true then Res.ok (D.int (i * j)) else .no) = .err c := z
  by_cases h : okMul i j = true
  · rw [if_pos h] at z'; cases z'
  · rw [if_neg h] at z'; cases z')
theorem k_div : OpK X (rI CDivA fun i j => .int (i.fdiv j)) oDiv := opk_I (fun a b d z => by
  unfold oDiv at z
  split at z
  case h_2 => cases z
  rename_i i j
  have z' : (if okDiv j = true then Res.ok (D.int (i.fdiv j)) else .no) = .ok d := z
  by_cases h : okDiv j = true
  · rw [if_pos h] at z'; cases z'; exact ⟨i, j, rfl, rfl, h, rfl⟩
  · rw [if_neg h] at z'; cases z') (fun a b c z => by
  unfold oDiv at z
  split at z
  case h_2 => cases z
  rename_i i j
  have z' : (if okDiv j = true then Res.ok (D.int (i.fdiv j)) else .no) = .err c := z
  by_cases h : okDiv j = true
  · rw [if_pos h] at z'; cases z'
  · rw [if_neg h] at z'; cases z')
theorem k_mod : OpK X (rI (fun _ j => j ≠ 0) fun i j => .int (i.fmod j)) oMod := opk_I (fun a b d z => by
  unfold oMod at z
  split at z
  case h_2 => cases z
  rename_i i j
  have z' : (if j ≠ 0 then Res.ok (D.int (i.fmod j)) else .no) = .ok d := z
  by_cases h : j ≠ 0
  · rw [if_pos h] at z'; cases z'; exact ⟨i, j, rfl, rfl, h, rfl⟩
  · rw [if_neg h] at z'; cases z') (fun a b c z => by
  unfold oMod at z
  split at z
  case h_2 => cases z
  rename_i i j
  have z' : (if j ≠ 0 then Res.ok (D.int (i.fmod j)) else .no) = .err c := z
  by_cases h : j ≠ 0
  · rw [if_pos h] at z'; cases z'
  · rw [if_neg h] at z'; cases z')
theorem k_pow : OpK X (rI CPowA fun i j => .int (i ^ j.toNat)) oPow := opk_I (fun a b d z => by
  unfold oPow at z
  split at z
  case h_2 => cases z
  rename_i i j
  have z' : (if okPow i j = true then Res.ok (D.int (i ^ j.toNat)) else .no) = .ok d := z
  by_cases h : okPow i j = true
  · rw [if_pos h] at z'; cases z'; exact ⟨i, j, rfl, rfl, h, rfl⟩
  · rw [if_neg h] at z'; cases z') (fun a b c z => by
  unfold oPow at z
  split at z
  case h_2 => cases z
  rename_i i j
  have z' : (if okPow i j = true then Res.ok (D.int (i ^ j.toNat)) else .no) = .err c := z
  by_cases h : okPow i j = true
  · rw [if_pos h] at z'; cases z'
  · rw [if_neg h] at z'; cases z')
/-- () + t is t -/
noncomputable def rCat0 (K : PySem.W.Frag) : R2 := fun x y H Q => ∃ a b ys, x = .ref a ∧ y = .ref b ∧ SqT K H a [] ∧ SqT K H b ys ∧ Q (.ref b) H
theorem op_cat0 : OpR X (binaryOp .Add) (rCat0 X.K) := by
  intro pins s σ H x y v u Q I rx ry h
  obtain ⟨a, b, ys, rfl, rfl, ha, hb, q⟩ := h
  cases rx
  cases ry
  obtain ⟨its, r1, p1, _⟩ := I.tuple ha
  obtain ⟨its2, r2, p2, _⟩ := I.tuple hb
  cases r1
  obtain ⟨⟨c1, d1, t1, s1⟩, ho1, hc1, n1, hd1⟩ := id p1
  obtain ⟨⟨c2, d2, t2, s2⟩, ho2, hc2, n2, hd2⟩ := id p2
  simp only at hc1 hd1 hc2 hd2
  subst hc1 hd1 hc2 hd2
  exact concat_meets ⟨_, ho1, rfl⟩ ⟨_, ho2, rfl⟩ noFill_tuple_add seq_tuple_add PySem.F.slot_tuple_add PySem.F.entry_tuple_add (PySem.F.args_tuple_add_2 _ _) (tuple_addW0 a b #[] its2.toArray n1 n2 d1 d2 s1 s2 rfl) ⟨ho1, ho2, ⟨.ref b, H, I, rfl, q⟩⟩
/-- + : ints, tuples -/
noncomputable def rAddA (K : PySem.W.Frag) : R2 := fun x y H Q => rI0 (fun i j => .int (i + j)) x y H Q ∨ (rCatT K x y H Q ∨ rCat0 K x y H Q)
theorem op_addA : OpR X (binaryOp .Add) (rAddA X.K) := OpR.or op_add (OpR.or op_catT op_cat0)
theorem k_add : OpK X (rAddA X.K) oAdd := ⟨fun a b c z => (by
    unfold oAdd at z
    split at z
    case h_1 => cases z
    case h_3 => cases z
    rename_i as bs
    have z' : (if as.length + bs.length ≤ 16777216 then Res.ok (D.tup (as ++ bs)) else .no) = .err c := z
    split at z' <;> cases z'), fun Hi H x y a b d Q s r1 r2 z q => by
    unfold oAdd at z
    split at z
    case h_3 => cases z
    · cases z
      exact .inl ⟨_, _, r1.intI, r2.intI, q _ Hi H (Ext.refl s) (.int _)⟩
    · rename_i as bs
      have z' : (if as.length + bs.length ≤ 16777216 then Res.ok (D.tup (as ++ bs)) else .no) = .ok d := z
      split at z'
      · rename_i hz
        cases z'
        obtain ⟨p, xs, rfl, h1, i1⟩ := r1.tupI
        obtain ⟨p', ys, rfl, h2, i2⟩ := r2.tupI
        by_cases h0 : as.length = 0
        · have e0 : as = [] := List.eq_nil_of_length_eq_zero h0
          subst e0
          cases i1
          exact .inr (.inr ⟨p, p', ys, rfl, rfl, sqT_mono s h1, sqT_mono s h2, q _ Hi H (Ext.refl s) (.tup h2 i2)⟩)
        refine .inr (.inl ⟨p, p', xs, ys, rfl, rfl, sqT_mono s h1, sqT_mono s h2, fun e => h0 (by rw [← i1.length, e]; rfl), by rw [i1.length, i2.length]; exact hz, fun e => ?_, fun _ l hl => ?_⟩)
        · subst e
          cases i2
          rw [List.append_nil] at q
          exact q _ Hi H (Ext.refl s) (.tup h1 i1)
        · exact q _ _ _ (Ext.new s hl) (.tup (SqT.of upd_same) ((i1.append i2).mono (same_new' (s.none hl) _)))
      · cases z'⟩
/-! ### items -/
theorem atI_neg {α : Type} {xs : List α} {i : Int} {v : α} (h0 : i < 0) (h1 : 0 ≤ (xs.length : Int) + i) (h : xs[((xs.length : Int) + i).toNat]? = some v) : atI xs i = some v := by
  have e : ixN xs.length i = some ((xs.length : Int) + i).toNat := by
    unfold ixN
    rw [if_neg (by omega), if_pos (by omega)]
    congr 2
    omega
  unfold atI; rw [e]; exact h
theorem atI_atD {K : PySem.W.Frag} {H : Hp} {xs : List V} {ds : List D} {i : Int} {d : D} (h : IsDs K H xs ds) (e : atD ds i = some d) : ∃ v, atI xs i = some v ∧ IsD K H v d := by
  unfold atD at e
  by_cases h0 : 0 ≤ i
  · rw [if_pos h0] at e
    obtain ⟨v, hv, r⟩ := h.at e
    refine ⟨v, ?_, r⟩
    have := atI_nat hv
    rw [show ((i.toNat : Nat) : Int) = i by omega] at this
    exact this
  · rw [if_neg h0] at e
    by_cases h1 : 0 ≤ (ds.length : Int) + i
    · rw [if_pos h1] at e
      obtain ⟨v, hv, r⟩ := h.at e
      refine ⟨v, ?_, r⟩
      have hl := h.length
      have e2 : ((ds.length : Int) + i).toNat = ((xs.length : Int) + i).toNat := by rw [hl]
      rw [e2] at hv
      exact atI_neg (by omega) (by omega) hv
    · rw [if_neg h1] at e; cases e
theorem k_ix : OpK X (fun x y H Q => rIxL X.K x y H Q ∨ rIxT X.K x y H Q) oIx := ⟨fun a b c z => (by
    unfold oIx at z
    split at z
    case h_3 => cases z
    · rename_i ds i
      have z' : ofO (atD ds i) = Res.err c := z
      cases q : atD ds i <;> rw [q] at z' <;> cases z'
    · rename_i ds i
      have z' : ofO (atD ds i) = Res.err c := z
      cases q : atD ds i <;> rw [q] at z' <;> cases z'), fun Hi H x y a b d Q s r1 r2 z q => by
    unfold oIx at z
    split at z
    case h_3 => cases z
    · rename_i ds i
      have z' : ofO (atD ds i) = Res.ok d := z
      cases w : atD ds i with
      | none => rw [w] at z'; cases z'
      | some d' =>
        rw [w] at z'; cases z'
        obtain ⟨p, xs, rfl, h1, i1⟩ := r1.tupI
        obtain ⟨v, hv, r⟩ := atI_atD i1 w
        exact .inr ⟨p, xs, i, v, rfl, r2.intI, sqT_mono s h1, hv, q v Hi H (Ext.refl s) r⟩
    · rename_i ds i
      have z' : ofO (atD ds i) = Res.ok d := z
      cases w : atD ds i with
      | none => rw [w] at z'; cases z'
      | some d' =>
        rw [w] at z'; cases z'
        obtain ⟨p, xs, rfl, h1, i1⟩ := r1.lstI
        obtain ⟨v, hv, r⟩ := atI_atD i1 w
        exact .inl ⟨p, xs, i, v, rfl, r2.intI, sqL_mono s h1, hv, q v Hi H (Ext.refl s) r⟩⟩
theorem ix_both : IxR X (fun x y H Q => rIxL X.K x y H Q ∨ rIxT X.K x y H Q) := ix_list.or ix_tup
end
end L3

namespace L3
open PySem PySem.Spec PyProof.Rows L2
unseal PEd PEf PTd PWd PAd PSd PSsd
/-! ### == -/
section
variable {X : Cx} {pins : List (Addr × Obj)} {σ : St} {H : Hp} {s : Shared}
mutual
theorem IsD.inj (I : Inv X pins σ H s) : ∀ {v : V} {d e : D}, IsD X.K H v d → IsD X.K H v e → d = e
  | _, _, _, .non, h => by cases h; rfl
  | _, _, _, .bl b, h => by cases h; rfl
  | _, _, _, .int i, h => by cases h; rfl
  | _, _, _, .str x, h => by cases h; rfl
  | _, _, _, .tup h hs, h2 => by
    cases h2 with
    | tup h' hs' =>
      have e := I.tuple_inj h h'
      subst e
      rw [IsDs.inj I hs hs']
    | lst h' hs' =>
      exfalso
      obtain ⟨_, _, ⟨o, e, c, _⟩, _⟩ := I.tuple h
      obtain ⟨_, _, ⟨o', n', e', c', _⟩, _⟩ := I.list h'
      rw [e] at e'; cases e'; rw [c] at c'; exact absurd c' (by decide)
  | _, _, _, .lst h hs, h2 => by
    cases h2 with
    | lst h' hs' =>
      have e := I.list_inj h h'
      subst e
      rw [IsDs.inj I hs hs']
    | tup h' hs' =>
      exfalso
      obtain ⟨_, _, ⟨o, e, c, _⟩, _⟩ := I.tuple h'
      obtain ⟨_, _, ⟨o', n', e', c', _⟩, _⟩ := I.list h
      rw [e] at e'; cases e'; rw [c] at c'; exact absurd c' (by decide)
theorem IsDs.inj (I : Inv X pins σ H s) : ∀ {vs : List V} {ds es : List D}, IsDs X.K H vs ds → IsDs X.K H vs es → ds = es
  | _, _, _, .nil, h => by cases h; rfl
  | _, _, _, .cons h hs, h2 => by
    cases h2 with
    | cons h' hs' => rw [IsD.inj I h h', IsDs.inj I hs hs']
end
theorem getD_of {α : Type} {l : List α} {j : Nat} {x d : α} (h : l[j]? = some x) : l.getD j d = x := by
  rw [List.getD_eq_getElem?_getD, h]; rfl
theorem items_eq {A : Around} {xs xs' : List V} {ds ds' : List D} {its its' : List Value} (hs : IsDs X.K H xs ds) (hs' : IsDs X.K H xs' ds') (rv : Vals xs its) (rv' : Vals xs' its')
    (rc : ∀ (d d' : D) (v v' : V) (u u' : Value), d ∈ ds → IsD X.K H v d → IsD X.K H v' d' → RelV v u → RelV v' u' → SeqAt.EqAt A s u u' (eqD d d'))
    (j : Nat) (g1 : j < its.toArray.size) (g2 : j < its'.toArray.size) : SeqAt.EqAt A s its.toArray[j] its'.toArray[j] (eqD (ds.getD j .non) (ds'.getD j .non)) := by
  have g1' : j < its.length := by simpa using g1
  have g2' : j < its'.length := by simpa using g2
  have l1 : its.length = ds.length := by rw [← rv.length, hs.length]
  have l2 : its'.length = ds'.length := by rw [← rv'.length, hs'.length]
  obtain ⟨d, hd⟩ : ∃ d, ds[j]? = some d := ⟨_, List.getElem?_eq_getElem (by omega)⟩
  obtain ⟨d', hd'⟩ : ∃ d, ds'[j]? = some d := ⟨_, List.getElem?_eq_getElem (by omega)⟩
  obtain ⟨v, hv, iv⟩ := hs.at hd
  obtain ⟨v', hv', iv'⟩ := hs'.at hd'
  obtain ⟨w1, hw, rw1⟩ := rv.get hv
  obtain ⟨w2, hw', rw2⟩ := rv'.get hv'
  have e1 : its.toArray[j] = w1 := by
    rw [List.getElem?_eq_getElem g1'] at hw
    simpa using hw
  have e2 : its'.toArray[j] = w2 := by
    rw [List.getElem?_eq_getElem g2'] at hw'
    simpa using hw'
  rw [e1, e2, getD_of hd, getD_of hd']
  exact rc d d' v v' w1 w2 (List.mem_of_getElem? hd) iv iv' rw1 rw2
theorem all_range_lists {ds ds' : List D} (h : ds.length = ds'.length) : ((List.range ds.length).all fun j => eqD (ds.getD j .non) (ds'.getD j .non)) = eqDs ds ds' := by
  rw [eqDs_iff, ← h, Nat.min_self]; simp
theorem eqDs_len {ds ds' : List D} (h : ds.length ≠ ds'.length) : eqDs ds ds' = false := by
  rw [eqDs_iff]; simp [h]
/-- one step of ==, by the kinds; what is below by rc -/
theorem eqAt_step (I : Inv X pins σ H s) {A : Around} {v v' : V} {d d' : D} {u u' : Value} (h1 : IsD X.K H v d) (h2 : IsD X.K H v' d') (r1 : RelV v u) (r2 : RelV v' u') (hu : A.units < cLine)
    (rc : ∀ ds, (d = .tup ds ∨ d = .lst ds) → ∀ (e e' : D) (w w' : V) (z z' : Value), e ∈ ds → IsD X.K H w e → IsD X.K H w' e' → RelV w z → RelV w' z' → SeqAt.EqAt A.in1 s z z' (eqD e e')) :
    SeqAt.EqAt A s u u' (eqD d d') := by
  cases h1 with
  | non =>
    cases (show u = Value.none from r1)
    cases h2 with
    | non => cases (show u' = Value.none from r2); exact SeqAt.EqAt.same _
    | bl b => cases (show u' = Value.bool _ from r2); exact SeqAt.EqAt.none_bool _
    | int i => obtain ⟨t, rfl⟩ := r2; exact SeqAt.EqAt.none_int _ _
    | str x => obtain ⟨t, rfl⟩ := r2; exact SeqAt.EqAt.none_str _ _
    | tup h hs => cases (show u' = Value.ref _ from r2); obtain ⟨its, rv, p, hz⟩ := I.tuple h; exact SeqAt.EqAt.none_tuple (show s.heap.IsTuple _ its.toArray from p) hu
    | lst h hs => cases (show u' = Value.ref _ from r2); obtain ⟨its, rv, p, hz⟩ := I.list h; exact SeqAt.EqAt.none_list p.isList hu
  | bl b =>
    cases (show u = Value.bool _ from r1)
    cases h2 with
    | non => cases (show u' = Value.none from r2); exact SeqAt.EqAt.bool_none _
    | bl b => cases (show u' = Value.bool _ from r2); exact SeqAt.EqAt.bool_bool _ _
    | int i => obtain ⟨t, rfl⟩ := r2; exact SeqAt.EqAt.bool_int _ _ _
    | str x => obtain ⟨t, rfl⟩ := r2; exact SeqAt.EqAt.bool_str _ _ _
    | tup h hs => cases (show u' = Value.ref _ from r2); obtain ⟨its, rv, p, hz⟩ := I.tuple h; exact SeqAt.EqAt.bool_tuple _ (show s.heap.IsTuple _ its.toArray from p) hu
    | lst h hs => cases (show u' = Value.ref _ from r2); obtain ⟨its, rv, p, hz⟩ := I.list h; exact SeqAt.EqAt.bool_list _ p.isList hu
  | int i =>
    obtain ⟨t, rfl⟩ := r1
    cases h2 with
    | non => cases (show u' = Value.none from r2); exact SeqAt.EqAt.int_none _ _
    | bl b => cases (show u' = Value.bool _ from r2); exact SeqAt.EqAt.int_bool _ _ _
    | int i => obtain ⟨t, rfl⟩ := r2; exact SeqAt.EqAt.int_int _ _ _ _
    | str x => obtain ⟨t, rfl⟩ := r2; exact SeqAt.EqAt.int_str _ _ _ _
    | tup h hs => cases (show u' = Value.ref _ from r2); obtain ⟨its, rv, p, hz⟩ := I.tuple h; exact SeqAt.EqAt.int_tuple _ _ (show s.heap.IsTuple _ its.toArray from p) hu
    | lst h hs => cases (show u' = Value.ref _ from r2); obtain ⟨its, rv, p, hz⟩ := I.list h; exact SeqAt.EqAt.int_list _ _ p.isList hu
  | str x =>
    obtain ⟨t, rfl⟩ := r1
    cases h2 with
    | non => cases (show u' = Value.none from r2); exact SeqAt.EqAt.str_none _ _
    | bl b => cases (show u' = Value.bool _ from r2); exact SeqAt.EqAt.str_bool _ _ _
    | int i => obtain ⟨t, rfl⟩ := r2; exact SeqAt.EqAt.str_int _ _ _ _
    | str x => obtain ⟨t, rfl⟩ := r2; exact SeqAt.EqAt.str_str _ _ _ _
    | tup h hs => cases (show u' = Value.ref _ from r2); obtain ⟨its, rv, p, hz⟩ := I.tuple h; exact SeqAt.EqAt.str_tuple _ _ (show s.heap.IsTuple _ its.toArray from p) hu
    | lst h hs => cases (show u' = Value.ref _ from r2); obtain ⟨its, rv, p, hz⟩ := I.list h; exact SeqAt.EqAt.str_list _ _ p.isList hu
  | @tup a xs ds h hs =>
    cases (show u = Value.ref a from r1)
    obtain ⟨its, rv, p, hz⟩ := I.tuple h
    cases h2 with
    | non => cases (show u' = Value.none from r2); exact SeqAt.EqAt.tuple_none (show s.heap.IsTuple _ its.toArray from p) hu
    | bl b => cases (show u' = Value.bool _ from r2); exact SeqAt.EqAt.tuple_bool _ (show s.heap.IsTuple _ its.toArray from p) hu
    | int i => obtain ⟨t, rfl⟩ := r2; exact SeqAt.EqAt.tuple_int _ _ (show s.heap.IsTuple _ its.toArray from p) hu
    | str x => obtain ⟨t, rfl⟩ := r2; exact SeqAt.EqAt.tuple_str _ _ (show s.heap.IsTuple _ its.toArray from p) hu
    | @tup a' xs' ds' h' hs' =>
      cases (show u' = Value.ref a' from r2)
      by_cases e : a = a'
      · subst e
        have e := I.tuple_inj h h'
        subst e
        have e := IsDs.inj I hs hs'
        subst e
        rw [eqD_refl]
        exact SeqAt.EqAt.same _
      · obtain ⟨its', rv', p', hz'⟩ := I.tuple h'
        have l1 : its.toArray.size = ds.length := by rw [List.size_toArray, ← rv.length, hs.length]
        have l2 : its'.toArray.size = ds'.length := by rw [List.size_toArray, ← rv'.length, hs'.length]
        have key := SeqAt.RcAt.tuples (A := A) (s := s) (show s.heap.IsTuple a its.toArray from p) (show s.heap.IsTuple a' its'.toArray from p') hu
          (items_eq (A := A.in1) (s := s) hs hs' rv rv' fun d d' v v' u u' hm iv iv' r r' => rc ds (.inl rfl) d d' v v' u u' hm iv iv' r r')
        rw [l1, l2, ← eqDs_iff] at key
        exact SeqAt.EqAt.of_refs e key
    | @lst a' xs' ds' h' hs' =>
      cases (show u' = Value.ref a' from r2)
      obtain ⟨its', rv', p', hz'⟩ := I.list h'
      exact SeqAt.EqAt.tuple_list (show s.heap.IsTuple _ its.toArray from p) p'.isList hu
  | @lst a xs ds h hs =>
    cases (show u = Value.ref a from r1)
    obtain ⟨its, rv, p, hz⟩ := I.list h
    cases h2 with
    | non => cases (show u' = Value.none from r2); exact SeqAt.EqAt.list_none p.isList hu
    | bl b => cases (show u' = Value.bool _ from r2); exact SeqAt.EqAt.list_bool _ p.isList hu
    | int i => obtain ⟨t, rfl⟩ := r2; exact SeqAt.EqAt.list_int _ _ p.isList hu
    | str x => obtain ⟨t, rfl⟩ := r2; exact SeqAt.EqAt.list_str _ _ p.isList hu
    | @tup a' xs' ds' h' hs' =>
      cases (show u' = Value.ref a' from r2)
      obtain ⟨its', rv', p', hz'⟩ := I.tuple h'
      exact SeqAt.EqAt.list_tuple p.isList (show s.heap.IsTuple _ its'.toArray from p') hu
    | @lst a' xs' ds' h' hs' =>
      cases (show u' = Value.ref a' from r2)
      by_cases e : a = a'
      · subst e
        have e := I.list_inj h h'
        subst e
        have e := IsDs.inj I hs hs'
        subst e
        rw [eqD_refl]
        exact SeqAt.EqAt.same _
      · obtain ⟨its', rv', p', hz'⟩ := I.list h'
        have l1 : its.toArray.size = ds.length := by rw [List.size_toArray, ← rv.length, hs.length]
        have l2 : its'.toArray.size = ds'.length := by rw [List.size_toArray, ← rv'.length, hs'.length]
        by_cases hl : ds.length = ds'.length
        · have key := SeqAt.RcAt.lists (A := A) (s := s) p.isList p'.isList (by rw [l1, l2, hl]) hu
            (items_eq (A := A.in1) (s := s) hs hs' rv rv' fun d d' v v' u u' hm iv iv' r r' => rc ds (.inr rfl) d d' v v' u u' hm iv iv' r r')
          rw [l1, all_range_lists hl] at key
          exact SeqAt.EqAt.of_refs e key
        · have key := SeqAt.RcAt.lists_lengths (A := A) (s := s) p.isList p'.isList (by rw [l1, l2]; simp [hl]) hu
          rw [eqD, eqDs_len hl]
          exact SeqAt.EqAt.of_refs e key
theorem eqAt_D (I : Inv X pins σ H s) (n : Nat) : ∀ {v v' : V} {d d' : D}, dep d ≤ n → IsD X.K H v d → IsD X.K H v' d' →
    ∀ (A : Around) (u u' : Value), A.units + n < cLine → RelV v u → RelV v' u' → SeqAt.EqAt A s u u' (eqD d d') := by
  induction n with
  | zero =>
    intro v v' d d' hn h1 h2 A u u' hu r1 r2
    refine eqAt_step I h1 h2 r1 r2 (by omega) fun ds hd => ?_
    rcases hd with rfl | rfl <;> (rw [dep] at hn; omega)
  | succ n ih =>
    intro v v' d d' hn h1 h2 A u u' hu r1 r2
    refine eqAt_step I h1 h2 r1 r2 (by omega) fun ds hd e e' w w' z z' hm i1 i2 q1 q2 => ?_
    refine ih ?_ i1 i2 A.in1 z z' (by show A.units + 1 + n < cLine; omega) q1 q2
    have := dep_mem hm
    rcases hd with rfl | rfl <;> (rw [dep] at hn; omega)
/-- one step of ==, by the kinds; what is below by rc -/
theorem rcAt_step (I : Inv X pins σ H s) {A : Around} {v v' : V} {d d' : D} {u u' : Value} (h1 : IsD X.K H v d) (h2 : IsD X.K H v' d') (r1 : RelV v u) (r2 : RelV v' u') (hu : A.units < cLine)
    (rc : ∀ ds, (d = .tup ds ∨ d = .lst ds) → ∀ (e e' : D) (w w' : V) (z z' : Value), e ∈ ds → IsD X.K H w e → IsD X.K H w' e' → RelV w z → RelV w' z' → SeqAt.EqAt A.in1 s z z' (eqD e e')) :
    SeqAt.RcAt A s u u' (eqD d d') := by
  cases h1 with
  | non =>
    cases (show u = Value.none from r1)
    cases h2 with
    | non => cases (show u' = Value.none from r2); exact SeqAt.RcAt.none_none
    | bl b => cases (show u' = Value.bool _ from r2); exact SeqAt.RcAt.none_bool _
    | int i => obtain ⟨t, rfl⟩ := r2; exact SeqAt.RcAt.none_int _ _
    | str x => obtain ⟨t, rfl⟩ := r2; exact SeqAt.RcAt.none_str _ _
    | tup h hs => cases (show u' = Value.ref _ from r2); obtain ⟨its, rv, p, hz⟩ := I.tuple h; exact SeqAt.RcAt.none_tuple (show s.heap.IsTuple _ its.toArray from p) hu
    | lst h hs => cases (show u' = Value.ref _ from r2); obtain ⟨its, rv, p, hz⟩ := I.list h; exact SeqAt.RcAt.none_list p.isList hu
  | bl b =>
    cases (show u = Value.bool _ from r1)
    cases h2 with
    | non => cases (show u' = Value.none from r2); exact SeqAt.RcAt.bool_none _
    | bl b => cases (show u' = Value.bool _ from r2); exact SeqAt.RcAt.bool_bool _ _
    | int i => obtain ⟨t, rfl⟩ := r2; exact SeqAt.RcAt.bool_int _ _ _
    | str x => obtain ⟨t, rfl⟩ := r2; exact SeqAt.RcAt.bool_str _ _ _
    | tup h hs => cases (show u' = Value.ref _ from r2); obtain ⟨its, rv, p, hz⟩ := I.tuple h; exact SeqAt.RcAt.bool_tuple _ (show s.heap.IsTuple _ its.toArray from p) hu
    | lst h hs => cases (show u' = Value.ref _ from r2); obtain ⟨its, rv, p, hz⟩ := I.list h; exact SeqAt.RcAt.bool_list _ p.isList hu
  | int i =>
    obtain ⟨t, rfl⟩ := r1
    cases h2 with
    | non => cases (show u' = Value.none from r2); exact SeqAt.RcAt.int_none _ _
    | bl b => cases (show u' = Value.bool _ from r2); exact SeqAt.RcAt.int_bool _ _ _
    | int i => obtain ⟨t, rfl⟩ := r2; exact SeqAt.RcAt.int_int _ _ _ _
    | str x => obtain ⟨t, rfl⟩ := r2; exact SeqAt.RcAt.int_str _ _ _ _
    | tup h hs => cases (show u' = Value.ref _ from r2); obtain ⟨its, rv, p, hz⟩ := I.tuple h; exact SeqAt.RcAt.int_tuple _ _ (show s.heap.IsTuple _ its.toArray from p) hu
    | lst h hs => cases (show u' = Value.ref _ from r2); obtain ⟨its, rv, p, hz⟩ := I.list h; exact SeqAt.RcAt.int_list _ _ p.isList hu
  | str x =>
    obtain ⟨t, rfl⟩ := r1
    cases h2 with
    | non => cases (show u' = Value.none from r2); exact SeqAt.RcAt.str_none _ _
    | bl b => cases (show u' = Value.bool _ from r2); exact SeqAt.RcAt.str_bool _ _ _
    | int i => obtain ⟨t, rfl⟩ := r2; exact SeqAt.RcAt.str_int _ _ _ _
    | str x => obtain ⟨t, rfl⟩ := r2; exact SeqAt.RcAt.str_str _ _ _ _
    | tup h hs => cases (show u' = Value.ref _ from r2); obtain ⟨its, rv, p, hz⟩ := I.tuple h; exact SeqAt.RcAt.str_tuple _ _ (show s.heap.IsTuple _ its.toArray from p) hu
    | lst h hs => cases (show u' = Value.ref _ from r2); obtain ⟨its, rv, p, hz⟩ := I.list h; exact SeqAt.RcAt.str_list _ _ p.isList hu
  | @tup a xs ds h hs =>
    cases (show u = Value.ref a from r1)
    obtain ⟨its, rv, p, hz⟩ := I.tuple h
    cases h2 with
    | non => cases (show u' = Value.none from r2); exact SeqAt.RcAt.tuple_none (show s.heap.IsTuple _ its.toArray from p) hu
    | bl b => cases (show u' = Value.bool _ from r2); exact SeqAt.RcAt.tuple_bool _ (show s.heap.IsTuple _ its.toArray from p) hu
    | int i => obtain ⟨t, rfl⟩ := r2; exact SeqAt.RcAt.tuple_int _ _ (show s.heap.IsTuple _ its.toArray from p) hu
    | str x => obtain ⟨t, rfl⟩ := r2; exact SeqAt.RcAt.tuple_str _ _ (show s.heap.IsTuple _ its.toArray from p) hu
    | @tup a' xs' ds' h' hs' =>
      cases (show u' = Value.ref a' from r2)
      · obtain ⟨its', rv', p', hz'⟩ := I.tuple h'
        have l1 : its.toArray.size = ds.length := by rw [List.size_toArray, ← rv.length, hs.length]
        have l2 : its'.toArray.size = ds'.length := by rw [List.size_toArray, ← rv'.length, hs'.length]
        have key := SeqAt.RcAt.tuples (A := A) (s := s) (show s.heap.IsTuple a its.toArray from p) (show s.heap.IsTuple a' its'.toArray from p') hu
          (items_eq (A := A.in1) (s := s) hs hs' rv rv' fun d d' v v' u u' hm iv iv' r r' => rc ds (.inl rfl) d d' v v' u u' hm iv iv' r r')
        rw [l1, l2, ← eqDs_iff] at key
        exact key
    | @lst a' xs' ds' h' hs' =>
      cases (show u' = Value.ref a' from r2)
      obtain ⟨its', rv', p', hz'⟩ := I.list h'
      exact SeqAt.RcAt.tuple_list (show s.heap.IsTuple _ its.toArray from p) p'.isList hu
  | @lst a xs ds h hs =>
    cases (show u = Value.ref a from r1)
    obtain ⟨its, rv, p, hz⟩ := I.list h
    cases h2 with
    | non => cases (show u' = Value.none from r2); exact SeqAt.RcAt.list_none p.isList hu
    | bl b => cases (show u' = Value.bool _ from r2); exact SeqAt.RcAt.list_bool _ p.isList hu
    | int i => obtain ⟨t, rfl⟩ := r2; exact SeqAt.RcAt.list_int _ _ p.isList hu
    | str x => obtain ⟨t, rfl⟩ := r2; exact SeqAt.RcAt.list_str _ _ p.isList hu
    | @tup a' xs' ds' h' hs' =>
      cases (show u' = Value.ref a' from r2)
      obtain ⟨its', rv', p', hz'⟩ := I.tuple h'
      exact SeqAt.RcAt.list_tuple p.isList (show s.heap.IsTuple _ its'.toArray from p') hu
    | @lst a' xs' ds' h' hs' =>
      cases (show u' = Value.ref a' from r2)
      · obtain ⟨its', rv', p', hz'⟩ := I.list h'
        have l1 : its.toArray.size = ds.length := by rw [List.size_toArray, ← rv.length, hs.length]
        have l2 : its'.toArray.size = ds'.length := by rw [List.size_toArray, ← rv'.length, hs'.length]
        by_cases hl : ds.length = ds'.length
        · have key := SeqAt.RcAt.lists (A := A) (s := s) p.isList p'.isList (by rw [l1, l2, hl]) hu
            (items_eq (A := A.in1) (s := s) hs hs' rv rv' fun d d' v v' u u' hm iv iv' r r' => rc ds (.inr rfl) d d' v v' u u' hm iv iv' r r')
          rw [l1, all_range_lists hl] at key
          exact key
        · have key := SeqAt.RcAt.lists_lengths (A := A) (s := s) p.isList p'.isList (by rw [l1, l2]; simp [hl]) hu
          rw [eqD, eqDs_len hl]
          exact key
/-- one step of ==, by the kinds; what is below by rc -/
theorem rcNe_step (I : Inv X pins σ H s) {A : Around} {v v' : V} {d d' : D} {u u' : Value} (h1 : IsD X.K H v d) (h2 : IsD X.K H v' d') (r1 : RelV v u) (r2 : RelV v' u') (hu : A.units < cLine)
    (rc : ∀ ds, (d = .tup ds ∨ d = .lst ds) → ∀ (e e' : D) (w w' : V) (z z' : Value), e ∈ ds → IsD X.K H w e → IsD X.K H w' e' → RelV w z → RelV w' z' → SeqAt.EqAt A.in1 s z z' (eqD e e')) :
    SeqAt.RcNeAt A s u u' (!eqD d d') := by
  cases h1 with
  | non =>
    cases (show u = Value.none from r1)
    cases h2 with
    | non => cases (show u' = Value.none from r2); exact SeqAt.RcNeAt.none_none
    | bl b => cases (show u' = Value.bool _ from r2); exact SeqAt.RcNeAt.none_bool _
    | int i => obtain ⟨t, rfl⟩ := r2; exact SeqAt.RcNeAt.none_int _ _
    | str x => obtain ⟨t, rfl⟩ := r2; exact SeqAt.RcNeAt.none_str _ _
    | tup h hs => cases (show u' = Value.ref _ from r2); obtain ⟨its, rv, p, hz⟩ := I.tuple h; exact SeqAt.RcNeAt.none_tuple (show s.heap.IsTuple _ its.toArray from p) hu
    | lst h hs => cases (show u' = Value.ref _ from r2); obtain ⟨its, rv, p, hz⟩ := I.list h; exact SeqAt.RcNeAt.none_list p.isList hu
  | bl b =>
    cases (show u = Value.bool _ from r1)
    cases h2 with
    | non => cases (show u' = Value.none from r2); exact SeqAt.RcNeAt.bool_none _
    | bl b => cases (show u' = Value.bool _ from r2); exact SeqAt.RcNeAt.bool_bool _ _
    | int i => obtain ⟨t, rfl⟩ := r2; exact SeqAt.RcNeAt.bool_int _ _ _
    | str x => obtain ⟨t, rfl⟩ := r2; exact SeqAt.RcNeAt.bool_str _ _ _
    | tup h hs => cases (show u' = Value.ref _ from r2); obtain ⟨its, rv, p, hz⟩ := I.tuple h; exact SeqAt.RcNeAt.bool_tuple _ (show s.heap.IsTuple _ its.toArray from p) hu
    | lst h hs => cases (show u' = Value.ref _ from r2); obtain ⟨its, rv, p, hz⟩ := I.list h; exact SeqAt.RcNeAt.bool_list _ p.isList hu
  | int i =>
    obtain ⟨t, rfl⟩ := r1
    cases h2 with
    | non => cases (show u' = Value.none from r2); exact SeqAt.RcNeAt.int_none _ _
    | bl b => cases (show u' = Value.bool _ from r2); exact SeqAt.RcNeAt.int_bool _ _ _
    | int i => obtain ⟨t, rfl⟩ := r2; exact SeqAt.RcNeAt.int_int _ _ _ _
    | str x => obtain ⟨t, rfl⟩ := r2; exact SeqAt.RcNeAt.int_str _ _ _ _
    | tup h hs => cases (show u' = Value.ref _ from r2); obtain ⟨its, rv, p, hz⟩ := I.tuple h; exact SeqAt.RcNeAt.int_tuple _ _ (show s.heap.IsTuple _ its.toArray from p) hu
    | lst h hs => cases (show u' = Value.ref _ from r2); obtain ⟨its, rv, p, hz⟩ := I.list h; exact SeqAt.RcNeAt.int_list _ _ p.isList hu
  | str x =>
    obtain ⟨t, rfl⟩ := r1
    cases h2 with
    | non => cases (show u' = Value.none from r2); exact SeqAt.RcNeAt.str_none _ _
    | bl b => cases (show u' = Value.bool _ from r2); exact SeqAt.RcNeAt.str_bool _ _ _
    | int i => obtain ⟨t, rfl⟩ := r2; exact SeqAt.RcNeAt.str_int _ _ _ _
    | str x => obtain ⟨t, rfl⟩ := r2; exact SeqAt.RcNeAt.str_str _ _ _ _
    | tup h hs => cases (show u' = Value.ref _ from r2); obtain ⟨its, rv, p, hz⟩ := I.tuple h; exact SeqAt.RcNeAt.str_tuple _ _ (show s.heap.IsTuple _ its.toArray from p) hu
    | lst h hs => cases (show u' = Value.ref _ from r2); obtain ⟨its, rv, p, hz⟩ := I.list h; exact SeqAt.RcNeAt.str_list _ _ p.isList hu
  | @tup a xs ds h hs =>
    cases (show u = Value.ref a from r1)
    obtain ⟨its, rv, p, hz⟩ := I.tuple h
    cases h2 with
    | non => cases (show u' = Value.none from r2); exact SeqAt.RcNeAt.tuple_none (show s.heap.IsTuple _ its.toArray from p) hu
    | bl b => cases (show u' = Value.bool _ from r2); exact SeqAt.RcNeAt.tuple_bool _ (show s.heap.IsTuple _ its.toArray from p) hu
    | int i => obtain ⟨t, rfl⟩ := r2; exact SeqAt.RcNeAt.tuple_int _ _ (show s.heap.IsTuple _ its.toArray from p) hu
    | str x => obtain ⟨t, rfl⟩ := r2; exact SeqAt.RcNeAt.tuple_str _ _ (show s.heap.IsTuple _ its.toArray from p) hu
    | @tup a' xs' ds' h' hs' =>
      cases (show u' = Value.ref a' from r2)
      · obtain ⟨its', rv', p', hz'⟩ := I.tuple h'
        have l1 : its.toArray.size = ds.length := by rw [List.size_toArray, ← rv.length, hs.length]
        have l2 : its'.toArray.size = ds'.length := by rw [List.size_toArray, ← rv'.length, hs'.length]
        have key := SeqAt.RcNeAt.tuples (A := A) (s := s) (show s.heap.IsTuple a its.toArray from p) (show s.heap.IsTuple a' its'.toArray from p') hu
          (items_eq (A := A.in1) (s := s) hs hs' rv rv' fun d d' v v' u u' hm iv iv' r r' => rc ds (.inl rfl) d d' v v' u u' hm iv iv' r r')
        rw [l1, l2, ← eqDs_iff] at key
        exact key
    | @lst a' xs' ds' h' hs' =>
      cases (show u' = Value.ref a' from r2)
      obtain ⟨its', rv', p', hz'⟩ := I.list h'
      exact SeqAt.RcNeAt.tuple_list (show s.heap.IsTuple _ its.toArray from p) p'.isList hu
  | @lst a xs ds h hs =>
    cases (show u = Value.ref a from r1)
    obtain ⟨its, rv, p, hz⟩ := I.list h
    cases h2 with
    | non => cases (show u' = Value.none from r2); exact SeqAt.RcNeAt.list_none p.isList hu
    | bl b => cases (show u' = Value.bool _ from r2); exact SeqAt.RcNeAt.list_bool _ p.isList hu
    | int i => obtain ⟨t, rfl⟩ := r2; exact SeqAt.RcNeAt.list_int _ _ p.isList hu
    | str x => obtain ⟨t, rfl⟩ := r2; exact SeqAt.RcNeAt.list_str _ _ p.isList hu
    | @tup a' xs' ds' h' hs' =>
      cases (show u' = Value.ref a' from r2)
      obtain ⟨its', rv', p', hz'⟩ := I.tuple h'
      exact SeqAt.RcNeAt.list_tuple p.isList (show s.heap.IsTuple _ its'.toArray from p') hu
    | @lst a' xs' ds' h' hs' =>
      cases (show u' = Value.ref a' from r2)
      · obtain ⟨its', rv', p', hz'⟩ := I.list h'
        have l1 : its.toArray.size = ds.length := by rw [List.size_toArray, ← rv.length, hs.length]
        have l2 : its'.toArray.size = ds'.length := by rw [List.size_toArray, ← rv'.length, hs'.length]
        by_cases hl : ds.length = ds'.length
        · have key := SeqAt.RcNeAt.lists (A := A) (s := s) p.isList p'.isList (by rw [l1, l2, hl]) hu
            (items_eq (A := A.in1) (s := s) hs hs' rv rv' fun d d' v v' u u' hm iv iv' r r' => rc ds (.inr rfl) d d' v v' u u' hm iv iv' r r')
          rw [l1, all_range_lists hl] at key
          exact key
        · have key := SeqAt.RcNeAt.lists_lengths (A := A) (s := s) p.isList p'.isList (by rw [l1, l2]; simp [hl]) hu
          rw [eqD, eqDs_len hl]
          exact key

theorem eqA {X : Cx} (hu : X.A.units + 64 < cLine) : OpR X (compareOp .Eq) (fun x y H Q => ∃ d d', IsD X.K H x d ∧ IsD X.K H y d' ∧ dep d ≤ 50 ∧ Q (.bl (eqD d d')) H) := by
  intro pins s σ H x y v u Q I rx ry h
  obtain ⟨d, d', h1, h2, hn, q⟩ := h
  refine rcAt_step I h1 h2 rx ry (by omega) (fun ds hd e e' w w' z z' hm i1 i2 q1 q2 => ?_) X.prog X.w X.xe _ ⟨.bl _, H, I, rfl, q⟩
  refine eqAt_D I 50 ?_ i1 i2 X.A.in1 z z' (by show X.A.units + 1 + 50 < cLine; omega) q1 q2
  have := dep_mem hm
  rcases hd with rfl | rfl <;> (rw [dep] at hn; omega)
theorem neA {X : Cx} (hu : X.A.units + 64 < cLine) : OpR X (compareOp .NotEq) (fun x y H Q => ∃ d d', IsD X.K H x d ∧ IsD X.K H y d' ∧ dep d ≤ 50 ∧ Q (.bl (!eqD d d')) H) := by
  intro pins s σ H x y v u Q I rx ry h
  obtain ⟨d, d', h1, h2, hn, q⟩ := h
  refine rcNe_step I h1 h2 rx ry (by omega) (fun ds hd e e' w w' z z' hm i1 i2 q1 q2 => ?_) X.prog X.w X.xe _ ⟨.bl _, H, I, rfl, q⟩
  refine eqAt_D I 50 ?_ i1 i2 X.A.in1 z z' (by show X.A.units + 1 + 50 < cLine; omega) q1 q2
  have := dep_mem hm
  rcases hd with rfl | rfl <;> (rw [dep] at hn; omega)
theorem k_eq {X : Cx} : OpK X (fun x y H Q => ∃ d d', IsD X.K H x d ∧ IsD X.K H y d' ∧ dep d ≤ 50 ∧ Q (.bl (eqD d d')) H) oEq := ⟨fun a b c z => (by
    unfold oEq at z; split at z <;> cases z), fun Hi H x y a b d Q s r1 r2 z q => by
    unfold oEq at z
    split at z
    · rename_i h; cases z; exact ⟨a, b, r1.mono s, r2.mono s, h, q _ Hi H (Ext.refl s) (.bl _)⟩
    · cases z⟩
theorem k_ne {X : Cx} : OpK X (fun x y H Q => ∃ d d', IsD X.K H x d ∧ IsD X.K H y d' ∧ dep d ≤ 50 ∧ Q (.bl (!eqD d d')) H) oNe := ⟨fun a b c z => (by
    unfold oNe at z; split at z <;> cases z), fun Hi H x y a b d Q s r1 r2 z q => by
    unfold oNe at z
    split at z
    · rename_i h; cases z; exact ⟨a, b, r1.mono s, r2.mono s, h, q _ Hi H (Ext.refl s) (.bl _)⟩
    · cases z⟩
/-! in, not in -/
open Classical in
/-- an item's answer, read off the value -/
noncomputable def ansU (K : PySem.W.Frag) (H : Hp) (dx : D) (u : Value) : Bool := if ∃ w d, IsD K H w d ∧ RelV w u ∧ eqD d dx = true then true else false
theorem ansU_eq (I : Inv X pins σ H s) {dx d : D} {w : V} {u : Value} (h : IsD X.K H w d) (r : RelV w u) : ansU X.K H dx u = eqD d dx := by
  unfold ansU
  by_cases e : eqD d dx = true
  · rw [if_pos ⟨w, d, h, r, e⟩, e]
  · rw [if_neg]
    · simpa using e
    · rintro ⟨w', d', h', r', e'⟩
      have := r.inj r'
      subst this
      have := IsD.inj I h h'
      subst this
      exact e e'
theorem any_ans (I : Inv X pins σ H s) {dx : D} : ∀ {xs : List V} {ds : List D} {us : List Value}, IsDs X.K H xs ds → Vals xs us → us.any (ansU X.K H dx) = ds.any fun d => eqD d dx
  | _, _, _, .nil, .nil => rfl
  | _, _, _, .cons h hs, .cons r t => by rw [List.any_cons, List.any_cons, ansU_eq I h r, any_ans I hs t]
theorem mem_ans (I : Inv X pins σ H s) {A : Around} {dx : D} {x : V} {ux : Value} (hx : IsD X.K H x dx) (rx : RelV x ux) (hu : A.units + 50 < cLine) : ∀ {xs : List V} {ds : List D} {us : List Value}, IsDs X.K H xs ds → Vals xs us → (∀ d ∈ ds, dep d ≤ 50) → ∀ u ∈ us, SeqAt.EqAt A s u ux (ansU X.K H dx u)
  | _, _, _, .nil, .nil, _ => fun u hu => by cases hu
  | _, _, _, .cons h hs, .cons r t, f => fun u hm => by
    rcases List.mem_cons.mp hm with rfl | hm
    · rw [ansU_eq I h r]; exact eqAt_D I 50 (f _ List.mem_cons_self) h hx A _ ux hu r rx
    · exact mem_ans I hx rx hu hs t (fun d hd => f d (List.mem_cons_of_mem _ hd)) u hm
noncomputable def rInA (K : PySem.W.Frag) (neg : Bool) : R2 := fun x y H Q => ∃ d ds, IsD K H x d ∧ (IsD K H y (.lst ds) ∨ IsD K H y (.tup ds)) ∧ depS ds ≤ 50 ∧ Q (.bl (if neg = true then !(ds.any fun e => eqD e d) else ds.any fun e => eqD e d)) H
theorem inA {X : Cx} (hu : X.A.units + 64 < cLine) : OpR X (compareOp .In) (rInA X.K false) := by
  intro pins s σ H x y v u Q I rx ry h
  obtain ⟨d, ds, h1, h2, hn, q⟩ := h
  have hd : ∀ e ∈ ds, dep e ≤ 50 := fun e he => Nat.le_trans (dep_mem he) hn
  rcases h2 with h2 | h2
  · obtain ⟨a, xs, rfl, hl, hs⟩ := h2.lstI
    cases ry
    obtain ⟨its, rv, p, hz⟩ := I.list hl
    refine SeqAt.in_listAt (ansU X.K H d) p.isList (fun y hy => mem_ans I h1 rx (by show X.A.units + 1 + 50 < cLine; omega) hs rv hd y (by simpa using hy)) ?_
    exact ⟨.bl _, H, I, by rw [List.any_toArray, any_ans I hs rv]; rfl, q⟩
  · obtain ⟨a, xs, rfl, hl, hs⟩ := h2.tupI
    cases ry
    obtain ⟨its, rv, p, hz⟩ := I.tuple hl
    refine SeqAt.in_tupleAt (ansU X.K H d) (show s.heap.IsTuple _ its.toArray from p) (fun y hy => mem_ans I h1 rx (by show X.A.units + 1 + 50 < cLine; omega) hs rv hd y (by simpa using hy)) ?_
    exact ⟨.bl _, H, I, by rw [List.any_toArray, any_ans I hs rv]; rfl, q⟩
theorem k_in {X : Cx} : OpK X (rInA X.K false) oIn := ⟨fun a b c z => (by
    cases b <;> first | cases z | (simp only [oIn] at z; split at z <;> cases z)), fun Hi H x y a b d Q s r1 r2 z q => by
    cases b <;> first | cases z | skip
    · rename_i ds
      simp only [oIn] at z
      split at z
      · rename_i h; cases z; exact ⟨a, ds, r1.mono s, .inr (r2.mono s), h, q _ Hi H (Ext.refl s) (.bl _)⟩
      · cases z
    · rename_i ds
      simp only [oIn] at z
      split at z
      · rename_i h; cases z; exact ⟨a, ds, r1.mono s, .inl (r2.mono s), h, q _ Hi H (Ext.refl s) (.bl _)⟩
      · cases z⟩
end
end L3

namespace L3
open PySem PySem.Spec PyProof.Rows L2
unseal PEd PEf PTd PWd PAd PSd PSsd
section
variable {X : Cx} {G : Gx} {a b e : Expr} {es : List Expr} {pos p : Pos} {f g : Ev} {fs gs : Fv} {t u : Tv} {x : Str} {id T : String}
/-! ### built-in calls -/
noncomputable def CallK (X : Cx) (r : List V → Hp → VK → Prop) (o : List D → Res D) : Prop := (∀ a c, o a ≠ .err c) ∧ ∀ (Hi H : Hp) (vs : List V) (ds : List D) (d : D) (Q : VK), Same Hi H → IsDs X.K Hi vs ds → o ds = .ok d →
  (∀ v Hi' H', Ext Hi H Hi' H' → IsD X.K Hi' v d → Q v H') → r vs H Q
theorem call1 {r : List V → Hp → VK → Prop} {o : List D → Res D} (k : CallK X r o) : ∀ σ H Q, tD X G (eB o fs) σ H Q → tCB r (tAs X G fs) σ H Q := fun σ H Q q => by
  obtain ⟨ρ, Hi, R, ou⟩ := q
  refine outA R ou fun vs ds Hi1 H1 e1 R1 r1 o1 => ?_
  cases z : o ds with
  | no => rw [z] at o1; exact o1.elim
  | err c => exact absurd z (k.1 ds c)
  | ok d => rw [z] at o1; exact k.2 Hi1 H1 vs ds d Q R1.s r1 z fun v Hi2 H2 e2 r2 => o1 Hi2 H2 e2 v r2
theorem pd_callB {r : List V → Hp → VK → Prop} {o : List D → Res D} (hc : CallR X (.builtin id) r) (k : CallK X r o) (hg : Gl X x) (hm : X.mg x = none) (hv : bootBuiltins x = some (.builtin id)) (ha : PAd X G (e :: es) fs) (hn : x ≠ "__name__" := by decide) (hdb : (x == ("__debug__" : Str)) = false := by decide)
    (he : starEach (e :: es) X.env = (false, eval e X.env) :: starEach es X.env := by rfl) (hpl : (backTo pos (starEach es X.env)).any (·.1) = false := by rfl) : PEd X G (.Call (.Name x p) (e :: es) [] pos) (eB o fs) :=
  PE.wk (pe_callB hc hg hm hv ha hn hdb he hpl) (call1 k)
theorem IsDs.one {K : PySem.W.Frag} {H : Hp} {vs : List V} {d : D} (h : IsDs K H vs [d]) : ∃ v, vs = [v] ∧ IsD K H v d := by
  cases h with
  | cons h t => cases t; exact ⟨_, rfl, h⟩
theorem IsDs.two {K : PySem.W.Frag} {H : Hp} {vs : List V} {d d' : D} (h : IsDs K H vs [d, d']) : ∃ v w, vs = [v, w] ∧ IsD K H v d ∧ IsD K H w d' := by
  cases h with
  | cons h t => obtain ⟨w, rfl, hw⟩ := t.one; exact ⟨_, w, rfl, h, hw⟩
theorem kb_len : CallK X (fun xs H Q => ∃ p ys, xs = [.ref p] ∧ (SqL X.K H p ys ∨ SqT X.K H p ys) ∧ Q (.int ys.length) H) bLen := ⟨fun a c z => (by
    unfold bLen at z; split at z <;> cases z), fun Hi H vs ds d Q s r z q => by
    unfold bLen at z
    split at z
    · cases z
      obtain ⟨v, rfl, h⟩ := r.one
      obtain ⟨a, xs, rfl, h1, h2⟩ := h.lstI
      refine ⟨a, xs, rfl, .inl (sqL_mono s h1), ?_⟩
      rw [h2.length]
      exact q _ Hi H (Ext.refl s) (.int _)
    · cases z
      obtain ⟨v, rfl, h⟩ := r.one
      obtain ⟨a, xs, rfl, h1, h2⟩ := h.tupI
      refine ⟨a, xs, rfl, .inr (sqT_mono s h1), ?_⟩
      rw [h2.length]
      exact q _ Hi H (Ext.refl s) (.int _)
    · cases z⟩
theorem kb_abs : CallK X (fun xs H Q => ∃ i, xs = [.int i] ∧ Q (.int (if i < 0 then -i else i)) H) bAbs := ⟨fun a c z => (by
    unfold bAbs at z; split at z <;> cases z), fun Hi H vs ds d Q s r z q => by
    unfold bAbs at z
    split at z
    · cases z
      obtain ⟨v, rfl, h⟩ := r.one
      exact ⟨_, by rw [h.intI], q _ Hi H (Ext.refl s) (.int _)⟩
    · cases z⟩
/-- list(..) -/
theorem pf_list (hg : Gl X "list") (hm : X.mg "list" = none) (hv : bootBuiltins "list" = some (.type "list")) (ha : PAd X G (e :: es) fs)
    (he : starEach (e :: es) X.env = (false, eval e X.env) :: starEach es X.env := by rfl) (hpl : (backTo pos (starEach es X.env)).any (·.1) = false := by rfl) : PEf X G (.Call (.Name "list" p) (e :: es) [] pos) (fList fs) :=
  PE.wk (pe_callTy call_list_of hg hm hv ha (by decide) (by decide) he hpl) fun σ H Q q => by
  obtain ⟨ρ, Hi, R, ou⟩ := q
  refine outA R ou fun vs ds Hi1 H1 e1 R1 r1 o1 => ?_
  split at o1
  · obtain ⟨v, rfl, h⟩ := r1.one
    obtain ⟨a, xs, rfl, h1, h2⟩ := h.lstI
    exact ⟨a, xs, rfl, .inl (sqL_mono R1.s h1), fun l hl => o1 _ _ (Ext.newF R1.s hl) l ⟨e1.h.none hl, R1.s.none hl, xs, upd_same, h2⟩⟩
  · obtain ⟨v, rfl, h⟩ := r1.one
    obtain ⟨a, xs, rfl, h1, h2⟩ := h.tupI
    exact ⟨a, xs, rfl, .inr (sqT_mono R1.s h1), fun l hl => o1 _ _ (Ext.newF R1.s hl) l ⟨e1.h.none hl, R1.s.none hl, xs, upd_same, h2⟩⟩
  · exact o1.elim
/-! ### isinstance(e, T), is None -/
/-- what is asked of the fragment for T -/
structure Kit (K : PySem.W.Frag) (T : String) : Prop where
  non : PySem.W.kitOne K (.type "NoneType") (.type T) = some (isT T .non)
  bl : PySem.W.kitOne K (.type "bool") (.type T) = some (isT T (.bl true))
  int : PySem.W.kitOne K (.type "int") (.type T) = some (isT T (.int 0))
  str : PySem.W.kitOne K (.type "str") (.type T) = some (isT T (.str ⟨#[]⟩))
  tup : PySem.W.kitOne K (.type "tuple") (.type T) = some (isT T (.tup []))
  lst : PySem.W.kitOne K (.type "list") (.type T) = some (isT T (.lst []))
theorem isT_ok (k : Kit X.K T) : CallR X (.builtin "isinstance") (fun xs H Q => ∃ y d, xs = [y, .ty T] ∧ IsD X.K H y d ∧ Q (.bl (isT T d)) H) := by
  intro pins s σ H xs us Q I r h
  obtain ⟨y, d, rfl, hd, q⟩ := h
  obtain ⟨u, w', rfl, rx, rc⟩ := vals2 r
  cases rc
  have fin : ∀ tk, EP X pins σ Q (.bool (isT T d)) { s with toks := tk } := fun tk => ⟨.bl _, H, I.tok _, rfl, q⟩
  cases hd with
  | non => cases (show u = Value.none from rx); exact PySem.W.kia_one PySem.W.kitx_none I.kIn True.intro k.non (fun z => nomatch z) fin
  | bl y => cases (show u = Value.bool y from rx); exact PySem.W.kia_one PySem.W.kitx_bool I.kIn True.intro k.bl (fun z => nomatch z) fin
  | int i => obtain ⟨t, q⟩ := (show ∃ t, u = Value.int i t from rx); cases q; exact PySem.W.kia_one PySem.W.kitx_int I.kIn True.intro k.int (fun z => nomatch z) fin
  | str y => obtain ⟨t, q⟩ := (show ∃ t, u = Value.str y t from rx); cases q; exact PySem.W.kia_one PySem.W.kitx_str I.kIn True.intro k.str (fun z => nomatch z) fin
  | @tup a xs ds h hs =>
    cases (show u = Value.ref a from rx)
    obtain ⟨its, rv, ⟨o, h1, h2, _⟩, hz⟩ := I.tuple h
    exact PySem.W.kia_one PySem.W.kitx_tuple I.kIn ⟨o, h1, h2⟩ k.tup (fun z => nomatch z) fin
  | @lst a xs ds h hs =>
    cases (show u = Value.ref a from rx)
    obtain ⟨its, rv, ⟨o, n, h1, h2, _⟩, hz⟩ := I.list h
    exact PySem.W.kia_one PySem.W.kitx_list I.kIn ⟨o, h1, h2⟩ k.lst (fun z => nomatch z) fin
theorem pd_isT {c : Expr} (k : Kit X.K T) (hg : Gl X "isinstance") (hm : X.mg "isinstance" = none) (ha : PEd X G a f) (hc : PE X c (tC (.ty T)))
    (h1 : starEach [a, c] X.env = (false, eval a X.env) :: starEach [c] X.env := by rfl) (h2 : starEach [c] X.env = (false, eval c X.env) :: starEach [] X.env := by rfl) (hpl : (backTo pos (starEach [c] X.env)).any (·.1) = false := by rfl) :
    PEd X G (.Call (.Name "isinstance" p) [a, c] [] pos) (eIsT T f) :=
  PE.wk (pe_callB (isT_ok k) hg hm boot_isinstance (pa_cons ha (pa_cons hc pa_nil h2) h1) (by decide) (by decide) h1 hpl) fun σ H Q q => by
  obtain ⟨ρ, Hi, R, ou⟩ := q
  refine out2 R ou fun v d Hi1 H1 e1 R1 r1 o1 => ?_
  exact ⟨v, d, rfl, r1.mono R1.s, o1.here R1.s _ (.bl _)⟩
/-! ### slices, list + list -/
variable {lo hi : Option Expr} {l h : Ov} {p2 : Pos}
noncomputable def tOv (X : Cx) (G : Gx) (f : Ov) : TO := fun σ H Q => ∃ ρ Hi, RelX X G Hi H σ ρ ∧ Out G Hi H (f ρ) fun o _ H' => Q o H'
@[irreducible] noncomputable def POd (X : Cx) (G : Gx) (e : Option Expr) (f : Ov) : Prop := PO X e (tOv X G f)
unseal POd
theorem PO.wk {X : Cx} {e : Option Expr} {t t' : TO} (h : PO X e t) (w : ∀ σ H Q, t' σ H Q → t σ H Q) : PO X e t' := fun pins s σ H Q I q => h pins s σ H Q I (w σ H Q q)
theorem od_some (he : PEd X G e f) : POd X G (some e) (oS f) := PO.wk (po_some he) fun σ H Q q => by
  obtain ⟨ρ, Hi, R, ou⟩ := q
  refine out2 R ou fun v d Hi1 H1 e1 R1 r1 o1 => ?_
  cases d with
  | int i => exact ⟨i, r1.intI, o1.here R1.s⟩
  | _ => exact o1.elim
theorem outO {f : Ov} {Hi H : Hp} {σ : St} {ρ : Rho} {β : Type} {k : Option Int → Res β} {k' : β → Hp → Hp → Prop} {Q : Option Int → Hp → Prop} (R : RelX X G Hi H σ ρ) (o : Out G Hi H ((f ρ).bind k) k')
    (w : ∀ c Hi' H', Ext Hi H Hi' H' → RelX X G Hi' H' σ ρ → Out G Hi' H' (k c) k' → Q c H') : tOv X G f σ H Q :=
  ⟨ρ, Hi, R, o.bind.imp fun d Hi' H' e q => w d Hi' H' e (R.grow e) q⟩
theorem cut_sIx (n d : Nat) (i : Option Int) : cut n i d = HT.sIx n d i := by
  cases i with
  | none => rfl
  | some i =>
    simp only [cut, HT.sIx]
    split <;> split <;> omega
theorem IsDs.cut {K : PySem.W.Frag} {H : Hp} {xs : List V} {ds : List D} (h : IsDs K H xs ds) (l r : Option Int) : IsDs K H (cutV xs l r) (sliceD ds l r) := by
  unfold cutV sliceD
  rw [cut_sIx, cut_sIx, h.length]
  exact (h.drop _).take _
theorem pf_slice (he : PEd X G e f) (hl : POd X G lo l) (hu : POd X G hi h) : PEf X G (.Subscript e (.Slice lo hi none p2) pos) (fSl f l h) := PE.wk (pe_slice sl_list he hl hu) fun σ H Q q => by
  obtain ⟨ρ, Hi, R, ou⟩ := q
  refine out2 R ou fun v d Hi1 H1 e1 R1 r1 o1 => ?_
  refine outO R1 o1 fun i Hi2 H2 e2 R2 o2 => ?_
  refine outO R2 o2 fun j Hi3 H3 e3 R3 o3 => ?_
  cases d with
  | lst ds =>
    obtain ⟨a, xs, rfl, h1, h2⟩ := r1.lstI
    refine ⟨a, xs, rfl, sqL_mono (e2.i.trans (e3.i.trans R3.s)) h1, fun p hp => ?_⟩
    exact o3 _ _ (Ext.newF R3.s hp) p ⟨(e1.h.trans (e2.h.trans e3.h)).none hp, R3.s.none hp, _, upd_same, (h2.cut i j).mono (e2.i.trans e3.i)⟩
  | _ => exact o3.elim
noncomputable def rCatS (K : PySem.W.Frag) : R2 := fun x y H Q => ∃ l b xs zs, x = .ref l ∧ y = .ref b ∧ SqL K H l xs ∧ SqL K H b zs ∧ xs.length + zs.length ≤ sizeLine ∧ ∀ p, H p = none → Q (.ref p) (upd H p (.lst (xs ++ zs)))
theorem op_catS : OpR X (binaryOp .Add) (rCatS X.K) := by
  intro pins s σ H x y v u Q I rx ry h
  obtain ⟨l, b, xs, zs, rfl, rfl, hl, hb, hz, q⟩ := h
  cases rx
  cases ry
  obtain ⟨its, r, p, _⟩ := I.list hl
  obtain ⟨its2, r2, p2, _⟩ := I.list hb
  obtain ⟨⟨cls, dd, data, sl⟩, ho, hc, n, hd⟩ := id p.isList
  obtain ⟨⟨cls2, dd2, data2, sl2⟩, ho2, hc2, n2, hd2⟩ := id p2.isList
  simp only at hc hd hc2 hd2
  subst hc hd hc2 hd2
  have hsz : its.toArray.size + its2.toArray.size ≤ sizeLine := by rw [List.size_toArray, List.size_toArray, ← r.length, ← r2.length]; exact hz
  have e : its.toArray ++ its2.toArray = (its ++ its2).toArray := by simp
  refine concat_meets ⟨_, ho, rfl⟩ ⟨_, ho2, rfl⟩ noFill_list_add seq_list_add PySem.F.slot_list_add PySem.F.entry_list_add (PySem.F.args_list_add_2 _ _) (list_addW l b its.toArray its2.toArray n n2 dd dd2 sl sl2 hsz) ⟨ho, ho2, ?_⟩
  rw [e]
  exact ⟨.ref _, _, I.lnew (t' := s.toks) (r.append r2) (by rw [List.length_append]; exact hz), rfl, q _ I.fresh⟩
theorem pf_cat (ha : PEd X G a f) (hb : PEd X G b g) : PEf X G (.BinOp a .Add b pos) (fCat f g) := PE.wk (pe_op op_catS ha hb) fun σ H Q q => by
  obtain ⟨ρ, Hi, R, ou⟩ := q
  refine out2 R ou fun v d Hi1 H1 e1 R1 r1 o1 => ?_
  refine out2 R1 o1 fun w d' Hi2 H2 e2 R2 r2 o2 => ?_
  cases d <;> first | exact o2.elim | skip
  cases d' <;> first | exact o2.elim | skip
  rename_i ds es
  obtain ⟨a, xs, rfl, h1, h2⟩ := r1.lstI
  obtain ⟨b, ys, rfl, h3, h4⟩ := r2.lstI
  have o2' : Out G Hi2 H2 (if ds.length + es.length ≤ 16777216 then Res.ok (ds ++ es) else .no) _ := o2
  by_cases hz : ds.length + es.length ≤ 16777216
  · rw [if_pos hz] at o2'
    refine ⟨a, b, xs, ys, rfl, rfl, sqL_mono (e2.i.trans e2.s) h1, sqL_mono e2.s h3, by rw [h2.length, h4.length]; exact hz, fun p hp => ?_⟩
    exact o2' _ _ (Ext.newF e2.s hp) p ⟨(e1.h.trans e2.h).none hp, e2.s.none hp, _, upd_same, (h2.mono e2.i).append h4⟩
  · rw [if_neg hz] at o2'; exact o2'.elim
end
end L3

namespace L3
open PySem PySem.Spec PyProof.Rows L2
unseal PEd PEf PTd PWd PAd PSd PSsd POd
/-! ### statements -/
section
variable {X : Cx} {G : Gx} {a b e : Expr} {es : List Expr} {pos p : Pos} {f g : Ev} {fs gs : Fv} {t u : Tv} {x : Str} {st : Stmt} {rest : List Stmt} {sa sb : Sv}
/-- what a statement does behind an expression -/
theorem finOf {Hi H : Hp} {σ : St} {ρ : Rho} {E : Ends} {α : Type} {r : Res α} {k : α → Res Fl} (R : RelX X G Hi H σ ρ) (h : Fin X G Hi E (r.bind k)) {Q : α → Hp → Hp → Prop}
    (w : ∀ a Hi' H', r = .ok a → Ext Hi H Hi' H' → Fin X G Hi' E (k a) → Q a Hi' H') : Out G Hi H r Q := by
  cases r with
  | no => exact h
  | err c => exact fun Hi' H' e => h Hi' H' (R.ext.trans e)
  | ok a => exact fun Hi' H' e => w a Hi' H' rfl e (Fin.mono (show Fin X G Hi E (k a) from h) e.i)
theorem ss_nil : PSsd X G [] sNext := PSs.wk pss_nil fun E σ H q => by
  obtain ⟨ρ, Hi, R, h⟩ := q
  exact h σ Hi H (Same.refl _) R
theorem seqFn {E : Ends} {Hi : Hp} {ρ : Rho} (h : Fin X G Hi E (sSeq sa sb ρ)) : Fin X G Hi { E with nx := tS X G sb E } (sa ρ) := by
  unfold sSeq at h
  cases z : sa ρ with
  | no => rw [z] at h; exact h
  | err c => rw [z] at h; exact h
  | ok fl =>
    rw [z] at h
    cases fl with
    | nx ρ' => exact fun σ' Hi' H' s R' => ⟨ρ', Hi', R', Fin.mono (show Fin X G Hi E (sb ρ') from h) s⟩
    | brk ρ' => exact h
    | ctn ρ' => exact h
    | ret r => cases r <;> exact h
theorem seqFin {E : Ends} {σ : St} {H : Hp} (q : tS X G (sSeq sa sb) E σ H) : tS X G sa { E with nx := tS X G sb E } σ H := by
  obtain ⟨ρ, Hi, R, h⟩ := q
  exact ⟨ρ, Hi, R, seqFn h⟩
theorem ss_cons (h1 : PSd X G st sa) (h2 : PSsd X G rest sb) : PSsd X G (st :: rest) (sSeq sa sb) := PSs.wk (pss_cons h1 h2) fun _ _ _ q => seqFin q
theorem ss_one (h1 : PSd X G st sa) : PSsd X G [st] sa := pss_one h1
theorem s_expr (he : PEd X G e f) (hs : swapsWith e none pos.line X.env = pure false := by rfl) : PSd X G (.Expr e pos) (sDrop f) := PS.wk (ps_expr he hs) fun E σ H q => by
  obtain ⟨ρ, Hi, R, h⟩ := q
  exact ⟨ρ, Hi, R, finOf R h fun d Hi' H' _ e h' v r => h' σ Hi' H' (Same.refl _) (R.grow e)⟩
theorem s_ret (he : PEd X G e f) : PSd X G (.Return (some e) pos) (sRet f) := PS.wk (ps_ret he) fun E σ H q => by
  obtain ⟨ρ, Hi, R, h⟩ := q
  obtain ⟨Hf, s1, R1, fl⟩ := R.frz
  refine ⟨ρ.map Sl.frz, Hf, R1, finOf R1 (Fin.mono h s1) fun d Hi' H' _ e h' v r => ?_⟩
  exact h' v Hi' H' (R1.ext.trans e) r
theorem s_retF (he : PEf X G e fs) : PSd X G (.Return (some e) pos) (sRetF fs) := PS.wk (ps_ret he) fun E σ H q => by
  obtain ⟨ρ, Hi, R, h⟩ := q
  obtain ⟨Hf, s1, R1, fl⟩ := R.frz
  refine ⟨ρ.map Sl.frz, Hf, R1, finOf R1 (Fin.mono h s1) fun ds Hi' H' _ e h' a n => ?_⟩
  obtain ⟨n1, n2, xs, n3, n4⟩ := n
  exact h' a Hi' H' (R1.ext.trans e) ⟨R1.ext.h.none n1, n2, xs, n3, n4⟩
theorem s_retOwn (i : Nat) (he : PE X e (tVar i)) : PSd X G (.Return (some e) pos) (sRetOwn i) := PS.wk (ps_ret he) fun E σ H q => by
  obtain ⟨ρ, Hi, R, h⟩ := q
  unfold sRetOwn at h
  cases z : ρ[i]? with
  | none => rw [z] at h; exact h.elim
  | some s =>
    rw [z] at h
    cases s with
    | own ds =>
      obtain ⟨a, xs, p, h1, h2, h3, h4⟩ := R.slot i _ z
      exact ⟨.ref a, p, h a Hi H R.ext ⟨h3, h2, xs, h1, h4⟩⟩
    | un => exact h.elim
    | val d => exact h.elim
    | exc c => exact h.elim
    | tab T => exact h.elim
theorem s_if {c : Expr} {as bs : List Stmt} (hc : PTd X G c t) (ha : PSsd X G as sa) (hb : PSsd X G bs sb) : PSd X G (.If c as bs pos) (sIf t sa sb) := PS.wk (ps_if hc ha hb) fun E σ H q => by
  obtain ⟨ρ, Hi, R, h⟩ := q
  refine ⟨ρ, Hi, R, finOf R h fun c Hi' H' _ e h' => ?_⟩
  cases c with
  | true => exact ⟨ρ, Hi', R.grow e, h'⟩
  | false => exact ⟨ρ, Hi', R.grow e, h'⟩
theorem s_set {i : Nat} {pos' : Pos} (hN : X.N.Nodup) (hi : X.N[i]? = some x) (hx : Loc X.env.scope x) (he : PEd X G e f) (hs : swapsWith e (some (.Name x pos')) pos.line X.env = pure false := by rfl)
    (hf : X.fn x = true ∨ X.env.scope.names.lookup x = some .local := by first | exact .inl rfl | exact .inr rfl | assumption) : PSd X G (.Assign [.Name x pos'] e pos) (sSet i f) := PS.wk (ps_set hN hi hx he hs hf) fun E σ H q => by
  obtain ⟨ρ, Hi, R, h⟩ := q
  exact ⟨ρ, Hi, R, finOf R h fun d Hi' H' _ e h' v r => h' _ Hi' H' (Same.refl _) ((R.grow e).set r)⟩
theorem s_own {i : Nat} {pos' : Pos} (hN : X.N.Nodup) (hi : X.N[i]? = some x) (hx : Loc X.env.scope x) (he : PEf X G e fs) (hs : swapsWith e (some (.Name x pos')) pos.line X.env = pure false := by rfl)
    (hf : X.fn x = true ∨ X.env.scope.names.lookup x = some .local := by first | exact .inl rfl | exact .inr rfl | assumption) : PSd X G (.Assign [.Name x pos'] e pos) (sOwn i fs) := PS.wk (ps_set hN hi hx he hs hf) fun E σ H q => by
  obtain ⟨ρ, Hi, R, h⟩ := q
  refine ⟨ρ, Hi, R, finOf R h fun ds Hi' H' _ e h' a n => ?_⟩
  obtain ⟨n1, n2, xs, n3, n4⟩ := n
  exact h' _ Hi' H' (Same.refl _) (R.setOwn e n1 n3 n2 n4)
/-! x.append(e) and its like -/
theorem s_app {i : Nat} {o : Expr} {apos cpos : Pos} (ho : PE X o (tVar i)) (he : PEd X G e f)
    (hbase : attributeBase o "append" X.env (eval o X.env) = eval o X.env := by rfl)
    (hfew : ((backTo cpos (starEach [e] X.env)).all (fun x => !x.1) && (backToKw cpos (keywordEach [] X.env)).all (fun x => x.1.isSome)
      && decide ([e].length + ([] : List Keyword).length + (if ([] : List Keyword).isEmpty then 0 else 1) < 30)) = true := by rfl)
    (hline : (apos.endLine == cpos.line) = true := by rfl) (hs : starEach [e] X.env = (false, eval e X.env) :: starEach [] X.env := by rfl)
    (hsw : swapsWith (.Call (.Attribute o "append" apos) [e] [] cpos) none pos.line X.env = pure false := by rfl) :
    PSd X G (.Expr (.Call (.Attribute o "append" apos) [e] [] cpos) pos) (sApp i f) :=
  PS.wk (ps_expr (pe_bm PySem.F.plainAttrs_list PySem.F.slot_list_append PySem.F.type_list_append mt_append ho (pa_cons he pa_nil hs) hbase hfew hline hs) hsw) fun E σ H q => by
  obtain ⟨ρ, Hi, R, h⟩ := q
  unfold sApp at h
  cases z : ρ[i]? with
  | none => rw [z] at h; exact h.elim
  | some s =>
    rw [z] at h
    cases s with
    | own ds =>
      obtain ⟨a, xs, p, h1, h2, h3, h4⟩ := R.slot i _ z
      refine ⟨.ref a, p, .inl ⟨rfl, xs, SqL.of h1⟩, ?_⟩
      refine ⟨ρ, Hi, R, finOf R h fun d Hi' H' _ e h' v r => ?_⟩
      have R' := R.grow e
      obtain ⟨g1, g2⟩ := e.out h1 h2
      by_cases hz : ds.length < 16777216
      · rw [if_pos hz] at h'
        refine ⟨a, xs, v, rfl, rfl, g1, by rw [h4.length]; exact hz, ?_⟩
        exact h' σ Hi' _ (Same.refl _) (R'.write z p ((h4.mono e.i).append (.cons r .nil)))
      · rw [if_neg hz] at h'; exact h'.elim
    | un => exact h.elim
    | val d => exact h.elim
    | exc c => exact h.elim
    | tab T => exact h.elim
theorem s_put {i : Nat} {o k : Expr} {fk : Ev} {tpos : Pos} (ho : PE X o (tVar i)) (hk : PEd X G k fk) (he : PEd X G e f) (hs : swapsWithSole [.Subscript o k tpos] e pos.line X.env = pure false := by rfl) (hw : swappedStores [.Subscript o k tpos] e X.env = pure none := by rfl)
    (h1 : (assignEach [.Subscript o k tpos] X.env).map (·.2) = [assign (.Subscript o k tpos) X.env] := by rfl)
    (ha : ∀ v, assign (.Subscript o k tpos) X.env v = (do
      let ov ← holding [v] (eval o X.env)
      let iv ← holding [v, ov] (eval k X.env)
      standAt tpos
      holding [v, ov, iv] (setItem ov iv v)
      release [v, ov, iv] []) := by intro _; rfl) : PSd X G (.Assign [.Subscript o k tpos] e pos) (sPut i fk f) :=
  PS.wk (ps_asg he (pg_sub ho hk set_list ha) hs hw h1) fun E σ H q => by
  obtain ⟨ρ, Hi, R, h⟩ := q
  refine ⟨ρ, Hi, R, finOf R h fun d Hi1 H1 _ e1 h1 v r => ?_⟩
  have R1 := R.grow e1
  cases z : ρ[i]? with
  | none => rw [z] at h1; exact h1.elim
  | some s =>
    rw [z] at h1
    cases s with
    | own ds =>
      obtain ⟨a, xs, p, g1, g2, g3, g4⟩ := R1.slot i _ z
      refine ⟨.ref a, p, ?_⟩
      refine ⟨ρ, Hi1, R1, finOf R1 h1 fun j Hi2 H2 _ e2 h2 w rw' => ?_⟩
      have R2 := R1.grow e2
      obtain ⟨k1, k2⟩ := e2.out g1 g2
      cases j with
      | int j =>
        have hl := g4.length
        have h2' : Fin X G Hi2 E (if 0 ≤ j ∧ j < ds.length then Res.ok (.nx (ρ.set i (.own (ds.set j.toNat d)))) else if -(ds.length : Int) ≤ j ∧ j < 0 then .ok (.nx (ρ.set i (.own (ds.set (j + ds.length).toNat d)))) else .no) := h2
        by_cases c1 : 0 ≤ j ∧ j < ds.length
        · rw [if_pos c1] at h2'
          refine ⟨a, xs, j, j.toNat, rfl, rw'.intI, k1, by unfold ixN; rw [if_pos c1.1, if_pos (by omega)], ?_⟩
          exact h2' σ Hi2 _ (Same.refl _) (R2.write z p ((g4.mono e2.i).set (r.mono e2.i) j.toNat))
        · rw [if_neg c1] at h2'
          by_cases c2 : -(ds.length : Int) ≤ j ∧ j < 0
          · rw [if_pos c2] at h2'
            refine ⟨a, xs, j, (j + ds.length).toNat, rfl, rw'.intI, k1, by unfold ixN; rw [if_neg (by omega), if_pos (by omega), hl], ?_⟩
            exact h2' σ Hi2 _ (Same.refl _) (R2.write z p ((g4.mono e2.i).set (r.mono e2.i) (j + ds.length).toNat))
          · rw [if_neg c2] at h2'; exact h2'.elim
      | _ => exact h2.elim
    | un => exact h1.elim
    | val d => exact h1.elim
    | exc c => exact h1.elim
    | tab T => exact h1.elim
theorem s_aug {i : Nat} {op : Operator} {o : Op2} {r : Int → Int → Int} {pos' : Pos} (hN : X.N.Nodup) (hi : X.N[i]? = some x) (hx : Loc X.env.scope x) (he : PEd X G e f) (ho : PIp X op (ipI r)) (hr : ∀ a b d, o a b = .ok d → ∃ i j, a = .int i ∧ b = .int j ∧ d = .int (r i j)) (hn : ∀ a b c, o a b ≠ .err c)
    (hf : X.fn x = true ∨ X.env.scope.names.lookup x = some .local := by first | exact .inl rfl | exact .inr rfl | assumption) : PSd X G (.AugAssign (.Name x pos') op e pos) (sAug i o f) := PS.wk (ps_aug hN hi hx he ho hf) fun E σ H q => by
  obtain ⟨ρ, Hi, R, h⟩ := q
  unfold sAug at h
  cases z : ρ[i]? with
  | none => rw [z] at h; exact h.elim
  | some s =>
    rw [z] at h
    cases s with
    | val d =>
      obtain ⟨v, p, rv⟩ := R.slot i _ z
      refine ⟨v, p, ρ, Hi, R, finOf R h fun d' Hi' H' _ e h' w rw' => ?_⟩
      cases q : o d d' with
      | no => rw [q] at h'; exact h'.elim
      | err c => exact absurd q (hn _ _ _)
      | ok u =>
        rw [q] at h'
        obtain ⟨i', j', rfl, rfl, rfl⟩ := hr _ _ _ q
        exact ⟨i', j', rv.intI, rw'.intI, h' _ Hi' H' (Same.refl _) ((R.grow e).set (.int _))⟩
    | un => exact h.elim
    | own ds => exact h.elim
    | exc c => exact h.elim
    | tab T => exact h.elim
/-! ### targets, loops -/
noncomputable def tGv (X : Cx) (G : Gx) (g : Gv) : TG := fun v σ H Q => ∃ d ρ Hi, IsD X.K Hi v d ∧ RelX X G Hi H σ ρ ∧ ∃ ρ', g d ρ = .ok ρ' ∧ ∀ σ' Hi' H', Same Hi Hi' → RelX X G Hi' H' σ' ρ' → Q σ' H'
@[irreducible] noncomputable def PGd (X : Cx) (G : Gx) (e : Expr) (g : Gv) : Prop := PG X e (tGv X G g)
unseal PGd
theorem g_name {i : Nat} (hN : X.N.Nodup) (hi : X.N[i]? = some x) (hx : Loc X.env.scope x) (hf : X.fn x = true ∨ X.env.scope.names.lookup x = some .local := by first | exact .inl rfl | exact .inr rfl | assumption) : PGd X G (.Name x pos) (gName i) :=
  fun pins s σ H v u Q I r q => pg_name hN hi hx hf pins s σ H v u Q I r (by
    obtain ⟨d, ρ, Hi, rd, R, ρ', e, k⟩ := q
    cases e
    exact k _ Hi H (Same.refl _) (R.set rd))
noncomputable def tGvs (X : Cx) (G : Gx) (g : List D → Rho → Res Rho) : TGs := fun vs σ H Q => ∃ ds ρ Hi, IsDs X.K Hi vs ds ∧ RelX X G Hi H σ ρ ∧ ∃ ρ', g ds ρ = .ok ρ' ∧ ∀ σ' Hi' H', Same Hi Hi' → RelX X G Hi' H' σ' ρ' → Q σ' H'
@[irreducible] noncomputable def PGsd (X : Cx) (G : Gx) (es : List Expr) (g : List D → Rho → Res Rho) : Prop := PGs X es (tGvs X G g)
unseal PGsd
theorem gs_nil : PGsd X G [] gNil := fun pins s σ H vs us Q I r q => pgs_nil pins s σ H vs us Q I r (by
    obtain ⟨ds, ρ, Hi, rd, R, ρ', e, k⟩ := q
    cases ds with
    | nil => cases rd; cases e; exact ⟨rfl, k _ Hi H (Same.refl _) R⟩
    | cons d ds => cases e)
theorem gs_cons {g : Gv} {r : List D → Rho → Res Rho} (h1 : PGd X G e g) (h2 : PGsd X G es r) (hs : (assignEach (e :: es) X.env).map (·.2) = assign e X.env :: (assignEach es X.env).map (·.2) := by rfl) : PGsd X G (e :: es) (gCons g r) :=
  fun pins s σ H vs us Q I rr q => pgs_cons h1 h2 hs pins s σ H vs us Q I rr (by
    obtain ⟨ds, ρ, Hi, rd, R, ρ', e, k⟩ := q
    cases ds with
    | nil => cases e
    | cons d ds =>
      cases rd with
      | cons rd rds =>
        refine ⟨_, _, rfl, d, ρ, Hi, rd, R, ?_⟩
        have e' : (g d ρ).bind (fun ρ' => r ds ρ') = .ok ρ' := e
        cases z : g d ρ with
        | no => rw [z] at e'; cases e'
        | err c => rw [z] at e'; cases e'
        | ok ρ1 =>
          rw [z] at e'
          exact ⟨ρ1, rfl, fun σ1 Hi1 H1 s1 R1 => ⟨ds, ρ1, Hi1, rds.mono s1, R1, ρ', e', fun σ2 Hi2 H2 s2 R2 => k σ2 Hi2 H2 (s1.trans s2) R2⟩⟩)
theorem g_tup {k : Nat} {r : List D → Rho → Res Rho} {n : Nat} (hc : X.calm = true) (h : PGsd X G es r) (hr : ∀ ds ρ ρ', r ds ρ = .ok ρ' → ds.length = n) (hn : (assignEach es X.env).length = n := by rfl) (hst : (assignEach es X.env).findIdx? (·.1) = none := by rfl) : PGd X G (.Tuple es k pos) (gTup r) :=
  fun pins s σ H v u Q I rr q => pg_tup hc h hn hst pins s σ H v u Q I rr (by
    obtain ⟨d, ρ, Hi, rd, R, ρ', e, kk⟩ := q
    cases d with
    | tup ds =>
      obtain ⟨a, xs, rfl, h1, h2⟩ := rd.tupI
      exact ⟨a, xs, rfl, sqT_mono R.s h1, by rw [h2.length]; exact hr ds ρ ρ' e, ds, ρ, Hi, h2, R, ρ', e, kk⟩
    | _ => cases e)
/-- what a loop walks: the items -/
noncomputable def Gives (K : PySem.W.Frag) (Hi : Hp) (J : It) (ds : List D) : Prop := ∀ (Hi1 H1 : Hp), Same Hi Hi1 → Same Hi1 H1 → ∀ i,
  (ds.length ≤ i → J.stop i H1) ∧ ∀ d, ds[i]? = some d → J.go i H1 ∧ ∀ x H2, J.yld i H1 x H2 → ∃ Hi2, Ext Hi1 H1 Hi2 H2 ∧ IsD K Hi2 x d
noncomputable def tIv (X : Cx) (G : Gx) (f : Fv) : TI := fun σ H R => ∃ ρ Hi, RelX X G Hi H σ ρ ∧ Out G Hi H (f ρ) fun ds Hi' H' => ∀ J, Gives X.K Hi' J ds → R J H'
@[irreducible] noncomputable def PId (X : Cx) (G : Gx) (tg e : Expr) (f : Fv) : Prop := PI X tg e (tIv X G f)
unseal PId
theorem PI.wk {tg : Expr} {t t' : TI} (h : PI X tg e t) (w : ∀ σ H Q, t' σ H Q → t σ H Q) : PI X tg e t' := fun pins s σ H Q I q => h pins s σ H Q I (w σ H Q q)
theorem for_go {g : Gv} {J : It} {ds : List D} {Hi1 H1 : Hp} {σ : St} {ρ : Rho} {E : Ends} (hge : ∀ d ρ c, g d ρ ≠ .err c) (R1 : RelX X G Hi1 H1 σ ρ) (h1 : Fin X G Hi1 E (loop g sa ds ρ)) (gv : Gives X.K Hi1 J ds) : tFor (fun _ _ R => R J H1) (tGv X G g) (tS X G sa) E σ H1 := by
  refine ⟨fun i m σ' H' => m = ds.length - i ∧ ∃ ρ' Hi', Same Hi1 Hi' ∧ RelX X G Hi' H' σ' ρ' ∧ Fin X G Hi' E (loop g sa (ds.drop i) ρ'), ⟨_, rfl, ρ, Hi1, Same.refl _, R1, h1⟩, ?_⟩
  rintro i m σ' H' ⟨rfl, ρ', Hi', s', R', h'⟩
  obtain ⟨w1, w2⟩ := gv Hi' H' s' R'.s i
  by_cases hl : i < ds.length
  · obtain ⟨d, hd⟩ : ∃ d, ds[i]? = some d := ⟨_, List.getElem?_eq_getElem hl⟩
    obtain ⟨go, yl⟩ := w2 d hd
    have e3 : ds.drop i = d :: ds.drop (i + 1) := by
      rw [List.getElem?_eq_getElem hl] at hd
      cases hd
      exact List.drop_eq_getElem_cons hl
    rw [e3] at h'
    refine .inr ⟨go, fun σ2 H2 => ∃ ρ2 Hi2, Same Hi1 Hi2 ∧ RelX X G Hi2 H2 σ2 ρ2 ∧ Fin X G Hi2 E (loop g sa (ds.drop (i + 1)) ρ2), fun σ2 H2 z => ⟨ds.length - (i + 1), by omega, rfl, z⟩, fun x H2 y => ?_⟩
    obtain ⟨Hi2, e2, r2⟩ := yl x H2 y
    have R2 := R'.grow e2
    have h2 : Fin X G Hi2 E ((g d ρ').bind fun ρ1 => (sa ρ1).bind fun f => match f with
      | .nx ρ2 => loop g sa (ds.drop (i + 1)) ρ2
      | .ctn ρ2 => loop g sa (ds.drop (i + 1)) ρ2
      | .brk ρ2 => .ok (.nx ρ2)
      | .ret r => .ok (.ret r)) := Fin.mono h' e2.i
    cases z : g d ρ' with
    | no => rw [z] at h2; exact h2.elim
    | err c => exact absurd z (hge _ _ _)
    | ok ρ1 =>
      rw [z] at h2
      refine ⟨d, ρ', Hi2, r2, R2, ρ1, z, fun σ3 Hi3 H3 s3 R3 => ⟨ρ1, Hi3, R3, ?_⟩⟩
      have h3 := Fin.mono h2 s3
      have sm : Same Hi1 Hi3 := (s'.trans e2.i).trans s3
      simp only [Res.bind] at h3
      cases zb : sa ρ1 with
      | no => rw [zb] at h3; exact h3.elim
      | err c => rw [zb] at h3; exact h3
      | ok fl =>
        rw [zb] at h3
        cases fl with
        | nx ρ2 => exact fun σ4 Hi4 H4 s4 R4 => ⟨ρ2, Hi4, sm.trans s4, R4, Fin.mono (show Fin X G Hi3 E (loop g sa (ds.drop (i + 1)) ρ2) from h3) s4⟩
        | ctn ρ2 => exact fun σ4 Hi4 H4 s4 R4 => ⟨ρ2, Hi4, sm.trans s4, R4, Fin.mono (show Fin X G Hi3 E (loop g sa (ds.drop (i + 1)) ρ2) from h3) s4⟩
        | brk ρ2 => exact h3
        | ret r => cases r <;> exact h3
  · rw [List.drop_eq_nil_of_le (by omega)] at h'
    exact .inl ⟨w1 (by omega), h' σ' Hi' H' (Same.refl _) R'⟩
theorem s_for {tg iter : Expr} {body : List Stmt} {it : Fv} {g : Gv} (hp : PassesOwn (model X.prog X.w) X.A X.env X.xe) (hc : X.calm = true) (hi : PId X G tg iter it) (hg : PGd X G tg g) (hge : ∀ d ρ c, g d ρ ≠ .err c) (hb : PSsd X G body sa)
    (hs : ∀ x, foldedSetIterable iter X.env x = pure x := by intro _; rfl) : PSd X G (.For tg iter body [] pos) (sFor it g sa) := PS.wk (ps_for hp hc hi hg hb hs) fun E σ H q => by
  obtain ⟨ρ, Hi, R, h⟩ := q
  exact ⟨ρ, Hi, R, finOf R h fun ds Hi1 H1 _ e1 h1 J gv => for_go hge (R.grow e1) h1 gv⟩
theorem s_while {c : Expr} {body : List Stmt} (hp : PassesOwn (model X.prog X.w) X.A X.env X.xe) (hc : PTd X G c t) (hb : PSsd X G body sa) : PSd X G (.While c body [] pos) (sWhile t sa) := PS.wk (ps_while hp hc hb) fun E σ H q => by
  obtain ⟨ρ, Hi, R, h⟩ := q
  have hn : sWhile t sa ρ ≠ .no := fun z => by rw [z] at h; exact h
  obtain ⟨n, en⟩ := sWhile_some hn
  rw [en] at h
  refine ⟨fun m σ' H' => ∃ ρ' Hi', Same Hi Hi' ∧ RelX X G Hi' H' σ' ρ' ∧ Fin X G Hi' E (wh t sa m ρ'), ⟨n, ρ, Hi, Same.refl _, R, h⟩, ?_⟩
  rintro m σ' H' ⟨ρ', Hi', s', R', h'⟩
  cases m with
  | zero => exact h'.elim
  | succ m =>
    rw [wh] at h'
    refine ⟨ρ', Hi', R', finOf R' h' fun c Hi1 H1 _ e1 h1 => ?_⟩
    have R1 := R'.grow e1
    cases c with
    | false => exact h1 σ' Hi1 H1 (Same.refl _) R1
    | true =>
      refine ⟨fun σ2 H2 => ∃ ρ2 Hi2, Same Hi Hi2 ∧ RelX X G Hi2 H2 σ2 ρ2 ∧ Fin X G Hi2 E (wh t sa m ρ2), fun σ2 H2 z => ⟨m, by omega, z⟩, ρ', Hi1, R1, ?_⟩
      have sm : Same Hi Hi1 := s'.trans e1.i
      simp only [if_true] at h1
      cases zb : sa ρ' with
      | no => rw [zb] at h1; exact h1.elim
      | err c => rw [zb] at h1; exact h1
      | ok fl =>
        rw [zb] at h1
        cases fl with
        | nx ρ2 => exact fun σ4 Hi4 H4 s4 R4 => ⟨ρ2, Hi4, sm.trans s4, R4, Fin.mono (show Fin X G Hi1 E (wh t sa m ρ2) from h1) s4⟩
        | ctn ρ2 => exact fun σ4 Hi4 H4 s4 R4 => ⟨ρ2, Hi4, sm.trans s4, R4, Fin.mono (show Fin X G Hi1 E (wh t sa m ρ2) from h1) s4⟩
        | brk ρ2 => exact h1
        | ret r => cases r <;> exact h1
theorem gives_tup {K : PySem.W.Frag} {Hi : Hp} {a : Addr} {xs : List V} {ds : List D} (h : SqT K Hi a xs) (hs : IsDs K Hi xs ds) : Gives K Hi (Itt K a) ds := fun Hi1 H1 s1 s2 i => by
  have h1 := sqT_mono (s1.trans s2) h
  refine ⟨fun hl => ⟨xs, h1, by rw [hs.length]; exact hl⟩, fun d hd => ?_⟩
  obtain ⟨v, hv, r⟩ := hs.at hd
  refine ⟨⟨xs, v, h1, hv⟩, fun x H2 y => ?_⟩
  obtain ⟨e, y⟩ := y
  subst e
  have := y xs h1
  rw [hv] at this
  cases this
  exact ⟨Hi1, Ext.refl s2, r.mono s1⟩
theorem rng_get {lo c : Int} {n i : Nat} {d : D} (h : (rng lo n c)[i]? = some d) : i < n ∧ d = .int (lo + (i : Int) * c) := by
  unfold rng at h
  rw [List.getElem?_map] at h
  by_cases hl : i < n
  · rw [List.getElem?_range hl] at h; cases h; exact ⟨hl, rfl⟩
  · rw [List.getElem?_eq_none (by rw [List.length_range]; omega)] at h; cases h
theorem rng_len (lo c : Int) (n : Nat) : (rng lo n c).length = n := by unfold rng; rw [List.length_map, List.length_range]
theorem gives_rng {K : PySem.W.Frag} {Hi : Hp} (lo : Int) (n : Nat) : Gives K Hi (Itr lo n) (rng lo n 1) := fun Hi1 H1 s1 s2 i => by
  refine ⟨fun hl => by rw [rng_len] at hl; exact hl, fun d hd => ?_⟩
  obtain ⟨h1, rfl⟩ := rng_get hd
  refine ⟨h1, fun x H2 y => ?_⟩
  obtain ⟨e, y⟩ := y
  subst e y
  rw [Int.mul_one]
  exact ⟨Hi1, Ext.refl s2, .int _⟩
theorem i_rng1 {tg : Expr} (hg : Gl X "range") (hm : X.mg "range" = none) (ha : PAd X G [a] fs) (hs : starEach [a] X.env = [(false, eval a X.env)] := by rfl) : PId X G tg (.Call (.Name "range" p) [a] [] pos) (iRng1 fs) := PI.wk (pi_range1 hg hm ha hs) fun σ H Q q => by
  obtain ⟨ρ, Hi, R, ou⟩ := q
  refine outA R ou fun vs ds Hi1 H1 e1 R1 r1 o1 => ?_
  split at o1
  · rename_i j
    obtain ⟨v, rfl, h⟩ := r1.one
    by_cases hz : -(2 ^ 62) ≤ j ∧ j < 2 ^ 62
    · rw [if_pos hz] at o1
      exact ⟨j, by rw [h.intI], hz.1, hz.2, o1.here R1.s _ (gives_rng 0 j.toNat)⟩
    · rw [if_neg hz] at o1; exact o1.elim
  · exact o1.elim
end
end L3

namespace L3
open PySem PySem.Spec PyProof.Rows L2
unseal PEd PEf PTd PWd PAd PSd PSsd POd PGd PGsd PId
structure Fn (K : PySem.W.Frag) (mg : Str → Option Value) (x : Str) (st : Stmt) (ps : List Str) (f : Addr) (fd : FuncData) : Prop where
  fn : Fun K x x st f fd
  bd : Binds K fd ps []
  kp : PySem.W.keepIn K (.ref f) = true
  mg : mg x = some (.ref f)
/-- what is wanted of an error, by its class -/
noncomputable def XE (X : Cx) (G : Gx) : XK := fun cls _ H => ∃ c, X.mg c = some cls ∧ G.E c H
/-- the table of the code of the def that makes a lambda -/
noncomputable def IsTabP (K : PySem.W.Frag) (mg : Str → Option Value) (P : Addr) : Prop := ∃ f oc od fd osl c, mg "ranked" = some (.ref f) ∧ K.lookup f = some ⟨oc, od, .func fd, osl⟩ ∧ fd.code = .ref c ∧ ∀ h, K.In h → PySem.W.CodeHd h c P
noncomputable def TB (K : PySem.W.Frag) (mg : Str → Option Value) (Hi H : Hp) : Prop := ∀ P, IsTabP K mg P → TabAt P H ∧ Hi P = none
theorem TB.ext {K : PySem.W.Frag} {mg : Str → Option Value} {Hi H Hi' H' : Hp} (t : TB K mg Hi H) (e : Ext Hi H Hi' H') : TB K mg Hi' H' := fun P h => ⟨e.h.t P (t P h).1, by
  cases z : Hi' P with
  | none => rfl
  | some o =>
    obtain ⟨⟨ps, q, _⟩, n⟩ := t P h
    have := e.n P n (by rw [z]; exact fun w => by cases w)
    rw [q] at this; cases this⟩
structure Good (X : Cx) (G : Gx) (k : Nat) : Prop where
  calm : X.calm = true
  room : Room k X.A
  pass : Passes (CX1 X.prog X.w) X (XE X G)
  own : PassesOwn (model X.prog X.w) X.A X.env X.xe
  tb : TB X.K X.mg G.Bi G.B
/-- it may raise -/
noncomputable def GoodR (X : Cx) (G : Gx) : Prop := ∀ (pins : List (Addr × Obj)) (σ : St) (H : Hp) (s s' : Shared) (ea : Addr) (cls : Value) (vs : List Value), Inv X pins σ H s → Heap.MadeExcOf s.heap s'.heap ea cls vs → s'.os = s.os → AllBare s'.gens → XE X G cls none H → X.xe (.ref ea) s'
noncomputable def spM (K : PySem.W.Frag) (mg : Str → Option Value) (p : Nat) (m : Mir) : Sp := fun vs H Q E => vs.length = p ∧ ∃ Bi ds, TB K mg Bi H ∧ Same Bi H ∧ IsDs K Bi vs ds ∧ match m ds with
  | .ok (.v d) => ∀ v Hi' H', Ext Bi H Hi' H' → IsD K Hi' v d → Q v H'
  | .ok (.f es) => ∀ a Hi' H', Ext Bi H Hi' H' → NewL K H Hi' H' a es → Q (.ref a) H'
  | .err c => ∀ C, mg c = some C → ∀ Hi' H', Ext Bi H Hi' H' → E C none H'
  | .no => False
structure CanM (P : Program) (w : World) (K : PySem.W.Frag) (mg : Str → Option Value) (base : Heap) (k : Nat) (x : Str) (ps : List Str) (m : Mir) : Prop where
  ex : ∃ f fd, FnOk P w K mg base (CX1 P w) k f fd ps (spM K mg ps.length m) ∧ Binds K fd ps [] ∧ PySem.W.keepIn K (.ref f) = true ∧ mg x = some (.ref f)
  ln : ∀ ds, m ds ≠ .no → ds.length = ps.length
theorem Good.u {X : Cx} {G : Gx} {k : Nat} (W : Good X G k) : X.A.units + 64 < cLine := W.room.units
theorem CanM.mono {P : Program} {w : World} {K : PySem.W.Frag} {mg : Str → Option Value} {base : Heap} {j k : Nat} {x : Str} {ps : List Str} {m : Mir} (c : CanM P w K mg base j x ps m) (h : j ≤ k) : CanM P w K mg base k x ps m := by
  obtain ⟨⟨f, fd, F, r⟩, l⟩ := c
  exact ⟨⟨f, fd, F.mono h, r⟩, l⟩
section
variable {X : Cx} {G : Gx} {a b e : Expr} {es : List Expr} {pos p : Pos} {f g : Ev} {fs gs : Fv} {t u : Tv} {x : Str} {st : Stmt} {rest : List Stmt} {sa sb : Sv} {k : Nat} {ps : List Str} {m : Mir}
theorem call_m {ps : List Str} (tb : TB X.K X.mg G.Bi G.B) (ln : ∀ ds, m ds ≠ .no → ds.length = ps.length) : ∀ σ H Q, tD X G (eCall m fs) σ H Q → tCall (spM X.K X.mg ps.length m) [] (XE X G) (tAs X G fs) σ H Q := fun σ H Q q => by
  obtain ⟨ρ, Hi, R, ou⟩ := q
  refine outA R ou fun vs ds Hi1 H1 e1 R1 r1 o1 => ?_
  rw [List.append_nil]
  have hm : m ds ≠ .no := fun z => by rw [z] at o1; exact o1
  refine ⟨by rw [r1.length]; exact ln ds hm, Hi1, ds, tb.ext R1.ext, R1.s, r1, ?_⟩
  cases z : m ds with
  | no => exact absurd z hm
  | err c => rw [z] at o1; exact fun C hC Hi2 H2 e2 => ⟨c, hC, o1 Hi2 H2 e2⟩
  | ok r =>
    rw [z] at o1
    cases r with
    | v d => exact fun v Hi2 H2 e2 r2 => o1 Hi2 H2 e2 v r2
    | f ds =>
      intro a Hi2 H2 e2 n
      obtain ⟨n1, n2, xs, n3, n4⟩ := n
      exact o1 _ _ (e2.hold n1 n3 n2) (.ref a) (.lst (SqL.of upd_same) (n4.mono (same_new' n2 _)))
theorem pd_call (W : Good X G k) (c : CanM X.prog X.w X.K X.mg X.base k x ps m) (hg : Gl X x) (ha : PAd X G (e :: es) fs)
    (hdb : (x == ("__debug__" : Str)) = false := by decide) (he : starEach (e :: es) X.env = (false, eval e X.env) :: starEach es X.env := by rfl) (hpl : (backTo pos (starEach es X.env)).any (·.1) = false := by rfl) :
    PEd X G (.Call (.Name x p) (e :: es) [] pos) (eCall m fs) := by
  obtain ⟨⟨f, fd, F, b, kp, hm⟩, ln⟩ := c
  exact PE.wk (pe_call F W.room hg hm kp b .nil W.pass ha hdb he hpl) (call_m W.tb ln)
theorem callF_m {ps : List Str} (tb : TB X.K X.mg G.Bi G.B) (ln : ∀ ds, m ds ≠ .no → ds.length = ps.length) : ∀ σ H Q, tF X G (fCall m fs) σ H Q → tCall (spM X.K X.mg ps.length m) [] (XE X G) (tAs X G fs) σ H Q := fun σ H Q q => by
  obtain ⟨ρ, Hi, R, ou⟩ := q
  refine outA R ou fun vs ds Hi1 H1 e1 R1 r1 o1 => ?_
  rw [List.append_nil]
  have hm : m ds ≠ .no := fun z => by rw [z] at o1; exact o1
  refine ⟨by rw [r1.length]; exact ln ds hm, Hi1, ds, tb.ext R1.ext, R1.s, r1, ?_⟩
  cases z : m ds with
  | no => exact absurd z hm
  | err c => rw [z] at o1; exact fun C hC Hi2 H2 e2 => ⟨c, hC, o1 Hi2 H2 e2⟩
  | ok r =>
    rw [z] at o1
    cases r with
    | v d => exact o1.elim
    | f ds => exact fun a Hi2 H2 e2 n => o1 Hi2 H2 e2 a ⟨e1.h.none n.1, n.2⟩
theorem pf_call (W : Good X G k) (c : CanM X.prog X.w X.K X.mg X.base k x ps m) (hg : Gl X x) (ha : PAd X G (e :: es) fs)
    (hdb : (x == ("__debug__" : Str)) = false := by decide) (he : starEach (e :: es) X.env = (false, eval e X.env) :: starEach es X.env := by rfl) (hpl : (backTo pos (starEach es X.env)).any (·.1) = false := by rfl) :
    PEf X G (.Call (.Name x p) (e :: es) [] pos) (fCall m fs) := by
  obtain ⟨⟨f, fd, F, b, kp, hm⟩, ln⟩ := c
  exact PE.wk (pe_call F W.room hg hm kp b .nil W.pass ha hdb he hpl) (callF_m W.tb ln)
/-- a value of the module's top -/
theorem pd_glob {d : D} (hg : Gl X x) (h : ∃ v u', X.mg x = some u' ∧ RelV v u' ∧ IsD X.K (fun _ => none) v d) (hdb : (x == ("__debug__" : Str)) = false := by decide) : PEd X G (.Name x pos) (eC d) := by
  obtain ⟨v, u', hm, r, hd⟩ := h
  exact pd_c (pe_glob hg hm r hdb) fun H => hd.mono fun b o z => by cases z
end
/-! ### defs -/
noncomputable abbrev BX (P : Program) (w : World) (K : PySem.W.Frag) (mg : Str → Option Value) (base : Heap) (N : List Str) (x : Str) (st : Stmt) (f : Addr) (cdv : Value) (A : Around) (outer : List Env) (s : Shared) (H : Hp) (E : XK) : Cx :=
  cxOf (CX1 P w) P w K mg base N x (defScope st) f cdv A outer s H E
theorem start_rel {K : PySem.W.Frag} {mg : Str → Option Value} {Bi H : Hp} {N : List Str} {vs : List V} {ds : List D} (s : Same Bi H) (h : IsDs K Bi vs ds) : Rel K mg H Bi Bi H (L2.start N vs) (L3.start N.length ds) where
  len := by
    unfold L2.start L3.start
    rw [List.length_append, List.length_append, List.length_map, List.length_map, List.length_replicate, List.length_replicate, h.length]
  ext := Ext.refl s
  slot := fun i sl e => by
    unfold L3.start at e
    by_cases hi : i < ds.length
    · rw [List.getElem?_append_left (by rw [List.length_map]; exact hi), List.getElem?_map] at e
      obtain ⟨d, hd⟩ : ∃ d, ds[i]? = some d := ⟨_, List.getElem?_eq_getElem hi⟩
      rw [hd] at e; cases e
      obtain ⟨v, hv, r⟩ := h.at hd
      refine ⟨v, ?_, r⟩
      unfold L2.start
      rw [List.getElem?_append_left (by rw [List.length_map, h.length]; exact hi), List.getElem?_map, hv]
      rfl
    · rw [List.getElem?_append_right (by rw [List.length_map]; omega), List.getElem?_replicate] at e
      split at e
      · cases e; trivial
      · cases e
  dist := fun i j a es fs e _ _ _ => by
    exfalso
    unfold L3.start at e
    by_cases hi : i < ds.length
    · rw [List.getElem?_append_left (by rw [List.length_map]; exact hi), List.getElem?_map] at e
      cases z : ds[i]? with
      | none => rw [z] at e; cases e
      | some d => rw [z] at e; cases e
    · rw [List.getElem?_append_right (by rw [List.length_map]; omega), List.getElem?_replicate] at e
      split at e <;> cases e
section
variable {P : Program} {w : World} {K : PySem.W.Frag} {mg : Str → Option Value} {base : Heap} {N ps : List Str} {x : Str} {st : Stmt} {f : Addr} {fd : FuncData} {k : Nat} {b : Sv}
theorem good_cx {cdv : Value} {A : Around} {outer : List Env} {s : Shared} {H Bi : Hp} {E : XK} (hr : Room k (A.deeper (envOfC x (defScope st) s.heap.objs.size f cdv))) (tb : TB K mg Bi H) :
    Good (BX P w K mg base N x st f cdv A outer s H E) ⟨H, Bi, fun c H' => ∀ C, mg c = some C → E C none H'⟩ k where
  calm := rfl
  room := hr
  pass := passX fun c H' q => by
    obtain ⟨c', h1, h2⟩ := q
    exact h2 c h1
  own := PassesOwn.leaving
  tb := tb
theorem goodR_cx {cdv : Value} {A : Around} {outer : List Env} {s : Shared} {H Bi : Hp} {E : XK} :
    GoodR (BX P w K mg base N x st f cdv A outer s H E) ⟨H, Bi, fun c H' => ∀ C, mg c = some C → E C none H'⟩ := fun pins σ H1 s1 s' ea cls vs I hx hos hg q => by
  obtain ⟨c', h1, h2⟩ := q
  exact made_leaves I hx hos hg (h2 cls h1)
theorem fn_ok (F : Fn K mg x st ps f fd) (S : FnScope N ps (defScope st))
    (h : ∀ (cdv : Value) (A : Around) (outer : List Env) (s : Shared) (H : Hp) (E : XK) (G : Gx), Good (BX P w K mg base N x st f cdv A outer s H E) G k → GoodR (BX P w K mg base N x st f cdv A outer s H E) G → PSsd (BX P w K mg base N x st f cdv A outer s H E) G (defBody st) b) :
    FnOk P w K mg base (CX1 P w) (k + 1) f fd ps (spM K mg ps.length (fn ps.length N.length b)) := by
  obtain ⟨oc, od, kV, doc, pm, an, cdv, ct, osl, rfl, lk, hcd⟩ := F.fn.ex
  refine fn_of lk hcd S (fun vs H Q E h => h.1) fun A outer s H vs Q E hr hsp => ?_
  obtain ⟨hl, Bi, ds, tb, sm, hd, hq⟩ := hsp
  have hg := good_cx (P := P) (w := w) (K := K) (mg := mg) (base := base) (N := N) (outer := outer) (H := H) (Bi := Bi) (E := E) hr tb
  refine ⟨_, h cdv A outer s H E _ hg goodR_cx, L3.start N.length ds, Bi, start_rel sm hd, ?_⟩
  have hlen : ds.length = ps.length := by rw [← hd.length]; exact hl
  unfold fn at hq
  rw [if_pos hlen] at hq
  cases z : b (L3.start N.length ds) with
  | no => rw [z] at hq; exact hq
  | err c => rw [z] at hq; exact fun Hi' H' e C hC => hq C hC Hi' H' e
  | ok fl =>
    rw [z] at hq
    cases fl with
    | nx ρ' => exact fun σ' Hi' H' s R => hq .non Hi' H' R.ext .non
    | brk ρ' => exact hq.elim
    | ctn ρ' => exact hq.elim
    | ret r =>
      cases r with
      | v d => exact hq
      | f es => exact hq
theorem fn_pure (F : Fn K mg x st ps f fd) (S : FnScope N ps (defScope st))
    (h : ∀ (cdv : Value) (A : Around) (outer : List Env) (s : Shared) (H : Hp) (E : XK) (G : Gx), Good (BX P w K mg base N x st f cdv A outer s H E) G k → GoodR (BX P w K mg base N x st f cdv A outer s H E) G → PSsd (BX P w K mg base N x st f cdv A outer s H E) G (defBody st) b) :
    CanM P w K mg base (k + 1) x ps (fn ps.length N.length b) := by
  refine ⟨⟨f, fd, fn_ok F S h, F.bd, F.kp, F.mg⟩, fun ds hm => ?_⟩
  unfold fn at hm
  split at hm
  · assumption
  · exact absurd rfl hm
end
end L3

namespace L3
open PySem PySem.Spec PyProof.Rows L2
unseal PEd PEf PTd PWd PAd PSd PSsd POd PGd PGsd PId
section
variable {X : Cx} {G : Gx} {a b e : Expr} {es : List Expr} {pos p : Pos} {f g : Ev} {fs gs : Fv} {t u : Tv} {x : Str} {st : Stmt} {rest : List Stmt} {sa sb : Sv} {k : Nat}
theorem PTd.frz (h : PTd X G e t) : PTd X G e (tFrzB t) := PT.wk h fun σ H Q q => by
  obtain ⟨ρ, Hi, R, ou⟩ := q
  obtain ⟨Hf, s1, R1, fl⟩ := R.frz
  refine ⟨ρ.map Sl.frz, Hf, R1, ?_⟩
  unfold tFrzB at ou
  cases z : t (ρ.map Sl.frz) with
  | no => rw [z] at ou; exact ou
  | err c =>
    rw [z] at ou
    intro Hi1 H1 e1
    obtain ⟨Ht, e2, k, s2, n⟩ := Ext.thaw s1 fl R1.s e1
    exact ou Ht H1 e2
  | ok c =>
    rw [z] at ou
    intro Hi1 H1 e1
    obtain ⟨Ht, e2, k, s2, n⟩ := Ext.thaw s1 fl R1.s e1
    exact ou Ht H1 e2
/-! a list or a tuple, walked -/
noncomputable def iSq (K : PySem.W.Frag) (tl : TE) : TI := fun σ H R => tl σ H fun x H1 => ∃ a, x = .ref a ∧ (((∃ xs, SqL K H1 a xs) ∧ R (Itl K a) H1) ∨ ((∃ xs, SqT K H1 a xs) ∧ R (Itt K a) H1))
theorem pi_seq {tg l : Expr} {tl : TE} (hl : PE X l tl) : PI X tg l (iSq X.K tl) := by
  intro pins s σ H R I h
  refine thn (hl pins s σ H _ I h) fun v s1 ⟨x, H1, I1, r1, q1⟩ => ?_
  obtain ⟨a, e, q1⟩ := q1
  subst e
  cases r1
  rcases q1 with ⟨⟨xs, hq⟩, q⟩ | ⟨⟨xs, hq⟩, q⟩
  · obtain ⟨its, rv, p, hz⟩ := I1.list hq
    refine wpAny_pyIter_list p.isList ?_
    refine ⟨s1.heap.objs.size, [s1.heap.objs.size], _, _, H1, rfl, I1.kept (t' := s1.toks) fun b o e => Heap.get?_push_of_some _ e, turn_list a _, ⟨_, Heap.get?_push_size _ rfl, rfl, rfl⟩, fun b hb => ?_, q⟩
    have e : b = s1.heap.objs.size := by simpa using hb
    subst e
    exact I1.fpOk (Nat.le_refl _) (I1.hok.fresh (Nat.le_refl _))
  · obtain ⟨its, rv, p, hz⟩ := I1.tuple hq
    refine wpAny_pyIter_tuple (show s1.heap.IsTuple a its.toArray from p) ?_
    refine ⟨s1.heap.objs.size, [s1.heap.objs.size], _, _, H1, rfl, I1.kept (t' := s1.toks) fun b o e => Heap.get?_push_of_some _ e, turn_tuple a _, ⟨_, Heap.get?_push_size _ rfl, rfl, rfl⟩, fun b hb => ?_, q⟩
    have e : b = s1.heap.objs.size := by simpa using hb
    subst e
    exact I1.fpOk (Nat.le_refl _) (I1.hok.fresh (Nat.le_refl _))
theorem gives_lst {K : PySem.W.Frag} {Hi : Hp} {a : Addr} {xs : List V} {ds : List D} (h1 : SqL K Hi a xs) (h2 : IsDs K Hi xs ds) : Gives K Hi (Itl K a) ds := fun Hi1 H1 s1 s2 i => by
  have h3 := sqL_mono (s1.trans s2) h1
  refine ⟨fun hl => ⟨xs, h3, by rw [h2.length]; exact hl⟩, fun d hd => ?_⟩
  obtain ⟨v, hv, r⟩ := h2.at hd
  refine ⟨⟨xs, v, h3, hv⟩, fun x H2 y => ?_⟩
  obtain ⟨e, y⟩ := y
  subst e
  have := y xs h3
  rw [hv] at this
  cases this
  exact ⟨Hi1, Ext.refl s2, r.mono s1⟩
theorem i_seq {tg : Expr} (h : PEd X G e f) : PId X G tg e (iSeq f) := PI.wk (pi_seq h) fun σ H Q q => by
  obtain ⟨ρ, Hi, R, ou⟩ := q
  refine out2 R ou fun v d Hi1 H1 e1 R1 r1 o1 => ?_
  cases d with
  | lst ds =>
    obtain ⟨a, xs, rfl, h1, h2⟩ := r1.lstI
    exact ⟨a, rfl, .inl ⟨⟨xs, sqL_mono R1.s h1⟩, o1.here R1.s _ (gives_lst h1 h2)⟩⟩
  | tup ds =>
    obtain ⟨a, xs, rfl, h1, h2⟩ := r1.tupI
    exact ⟨a, rfl, .inr ⟨⟨xs, sqT_mono R1.s h1⟩, o1.here R1.s _ (gives_tup h1 h2)⟩⟩
  | _ => exact o1.elim
/-! targets are never an error -/
theorem gne_name {i : Nat} : ∀ d ρ c, gName i d ρ ≠ .err c := fun d ρ c z => by cases z
theorem gne_nil : ∀ d ρ c, gNil d ρ ≠ .err c := fun d ρ c z => by cases d <;> cases z
theorem gne_cons {g : Gv} {r : List D → Rho → Res Rho} (h1 : ∀ d ρ c, g d ρ ≠ .err c) (h2 : ∀ d ρ c, r d ρ ≠ .err c) : ∀ d ρ c, gCons g r d ρ ≠ .err c := fun d ρ c z => by
  cases d with
  | nil => cases z
  | cons d ds =>
    have z' : (g d ρ).bind (fun ρ' => r ds ρ') = .err c := z
    cases q : g d ρ with
    | no => rw [q] at z'; cases z'
    | err c' => exact h1 _ _ _ q
    | ok ρ' => rw [q] at z'; exact h2 _ _ _ z'
theorem gne_tup {r : List D → Rho → Res Rho} (h : ∀ d ρ c, r d ρ ≠ .err c) : ∀ d ρ c, gTup r d ρ ≠ .err c := fun d ρ c z => by
  cases d <;> first | cases z | exact h _ _ _ z
theorem gl_nil : ∀ (ds : List D) (ρ ρ' : Rho), gNil ds ρ = .ok ρ' → ds.length = 0 := fun ds ρ ρ' z => by
  cases ds with
  | nil => rfl
  | cons d ds => cases z
theorem gl_cons {g : Gv} {r : List D → Rho → Res Rho} {n : Nat} (h : ∀ (ds : List D) (ρ ρ' : Rho), r ds ρ = .ok ρ' → ds.length = n) : ∀ (ds : List D) (ρ ρ' : Rho), gCons g r ds ρ = .ok ρ' → ds.length = n + 1 := fun ds ρ ρ' z => by
  cases ds with
  | nil => cases z
  | cons d ds =>
    have z' : (g d ρ).bind (fun ρ' => r ds ρ') = .ok ρ' := z
    cases q : g d ρ with
    | no => rw [q] at z'; cases z'
    | err c' => rw [q] at z'; cases z'
    | ok ρ1 => rw [q] at z'; rw [List.length_cons, h ds ρ1 ρ' z']
theorem aug_sub : ∀ a b d, oSub a b = .ok d → ∃ i j, a = .int i ∧ b = .int j ∧ d = .int (i - j) := fun a b d z => by
  unfold oSub at z; split at z
  · cases z; exact ⟨_, _, rfl, rfl, rfl⟩
  · cases z
theorem aug_subE : ∀ a b c, oSub a b ≠ .err c := fun a b c z => by unfold oSub at z; split at z <;> cases z
end
end L3

namespace L3
open PySem PySem.Spec PyProof.Rows L2
unseal PEd PEf PTd PWd PAd PSd PSsd POd PGd PGsd PId
theorem isDs_ints {K : PySem.W.Frag} {H : Hp} : ∀ ns : List Int, IsDs K H (ns.map V.int) (ns.map D.int)
  | [] => .nil
  | n :: ns => .cons (.int n) (isDs_ints ns)
end L3

namespace L3
open PySem PySem.Spec PyProof.Rows L2
unseal PEd PEf PTd PWd PAd PSd PSsd POd PGd PGsd PId
section
variable {X : Cx} {G : Gx} {e : Expr} {es : List Expr} {pos np cpos : Pos} {fs : Fv} {k : Nat} {c : Str}
theorem s_raise (W : Good X G k) (WR : GoodR X G) (hR : ∃ C, Err X.K X.mg c C) (hg : Gl X c) (ha : PAd X G (e :: es) fs)
    (he : starEach (e :: es) X.env = (false, eval e X.env) :: starEach es X.env := by rfl) (hplain : (backTo cpos (starEach es X.env)).any (·.1) = false := by rfl) (hd : (c == ("__debug__" : Str)) = false := by decide) :
    PSd X G (.Raise (some (.Call (.Name c np) (e :: es) [] cpos)) none pos) (sRaise c fs) := by
  intro pins s σ H E I q
  obtain ⟨ρ, Hi, R, h⟩ := q
  obtain ⟨C, Er⟩ := hR
  obtain ⟨bmB, newId, B, initId, O, FB⟩ := Er.own X.base I.mod.kin
  obtain ⟨tl, N, nm, q, bs, hdct, sn, sub, ab, col, dd, k0, k1, k2, k3, k5, mN, hC, hN, hni, T⟩ := O.obj
  have hA := ha cpos pins s σ H (fun vs H1 => vs.length ≤ sizeLine ∧ XE X G (.ref C) none H1) I ⟨ρ, Hi, R, finOf R h fun ds Hi' H' _ e1 h' vs r => by
    have h' : Fin X G Hi' E (if ds.length ≤ 16777216 then (.err c : Res Fl) else .no) := h'
    by_cases hz : ds.length ≤ 16777216
    · rw [if_pos hz] at h'
      exact ⟨by rw [r.length]; exact hz, c, O.bound, h' Hi' H' (R.ext.trans e1)⟩
    · rw [if_neg hz] at h'; exact h'.elim⟩
  refine wpAny_Raise_call_subT (C := C) (nm := nm) (q := q) (N := N) (bs := bs) (bm := tl) (hdct := hdct) (sn := sn) (sub := sub) (ab := ab) (col := col) (dd := dd) (k0 := k0) (k1 := k1) (k2 := k2) (k3 := k3) (k5 := k5)
    FB (mN := mN) (T.hasType FB.hasBase) (I.ok.hd W.calm) (by rw [he]; show (false || (backTo cpos (starEach es X.env)).any (·.1)) = false; rw [hplain]; rfl) hni (ld_glob I hg O.bound ⟨rfl, ?_⟩ hd)
  rw [he] at hA ⊢
  refine Calls.evalArgs_plain (wpAny_mono hA (fun us s₂ h₂ => ?_) fun _ _ y => y)
  obtain ⟨vs, H2, I2, rv, hz, hx⟩ := h₂
  exact ⟨rfl, by show us.length ≤ sizeLine; rw [← rv.length]; exact hz, I2.bk _ _ hC, hN.keeps I2.bk, T.keeps I2.bk, fun h' ea hm => WR pins σ H2 s₂ { s₂ with heap := h' } ea (.ref C) us I2 hm rfl I2.bare hx⟩
end
end L3

namespace L3
open PySem PySem.Spec PyProof.Rows L2 PySem.W Builtin Builtin.ObjectAttr Builtin.Getset_descriptor
unseal PEd PEf PTd PWd PAd PSd PSsd POd PGd PGsd PId
/-! ### the class of an error, and isinstance -/
section
variable {prog : Program} {w : World} {A : Around} {E : Value → Shared → Prop} {s : Shared} {K : Frag} {x D : Addr} {ox : Obj}
end
end L3

namespace L3
open PySem PySem.Spec PyProof.Rows L2 PySem.W
unseal PEd PEf PTd PWd PAd PSd PSsd POd PGd PGsd PId
section
variable {prog : Program} {w : World} {A : Around} {E : Value → Shared → Prop} {s : Shared} {K : Frag} {x C CE : Addr} {ox : Obj}
end
end L3

namespace L3
open PySem PySem.Spec PyProof.Rows L2 PySem.W
unseal PEd PEf PTd PWd PAd PSd PSsd POd PGd PGsd PId
/-! ### try: the state behind an error that was caught -/
section
variable {X : Cx} {pins : List (Addr × Obj)} {σ : St} {H H' : Hp} {s s' : Shared} {ea : Addr} {cls : Value}
/-- an untracked object of one's own is tracked from here on -/
theorem _root_.L2.Inv.track (I : Inv X pins σ H s) {a : Addr} {o : HO} (hn : H a = none) (h0 : X.s₀.heap.get? a = none) (hl : a ≠ X.env.locals) (hc : ∀ x c, X.env.cells.lookup x = some c → c ≠ a) (hp : ∀ p ∈ X.pn ++ pins, p.1 ≠ a)
    (ho : ObjOk X.prog X.w (upd H a o) s.heap a o) : Inv X pins σ (upd H a o) s where
  ok := I.ok
  os := I.os
  bare := I.bare
  base := ⟨I.base.keep, I.base.slot, fun b ob e n hx => by
      have : b ≠ a := fun z => by rw [z, h0] at e; cases e
      rw [upd_ne this]; exact I.base.free b ob e n hx, I.base.there, fun b xs e => by
      have z := I.base.tups b xs e
      rw [upd_ne (ne_of_none z hn)]; exact z, fun b ob u e => by
      have z := I.base.frzs b ob u e
      rw [upd_ne (ne_of_none z hn)]; exact z, fun b ps e => by
      obtain ⟨m, z⟩ := I.base.tbls b ps e
      exact ⟨m, by rw [upd_ne (ne_of_none z hn)]; exact z⟩⟩
  loc := I.loc
  cell := I.cell
  free := by rw [upd_ne (Ne.symm hl)]; exact I.free
  freeC := fun x c e => by rw [upd_ne (hc x c e)]; exact I.freeC x c e
  pin := fun p hp' => by
    obtain ⟨e1, e2, e3, e4, e5⟩ := I.pin p hp'
    exact ⟨e1, by rw [upd_ne (hp p hp')]; exact e2, e3, e4, e5⟩
  hok := fun b u e => by
    by_cases hb : b = a
    · subst hb; rw [upd_same] at e; cases e; exact ho
    · rw [upd_ne hb] at e
      exact (I.hok b u e).stay (fun c v _ q => q) (fun c q => by rw [upd_ne (ne_of_none q hn)]; exact q) fun c xs q => by rw [upd_ne (ne_of_none q hn)]; exact q
  len := I.len
end
end L3

namespace L3
open PySem PySem.Spec PyProof.Rows L2 PySem.W
unseal PEd PEf PTd PWd PAd PSd PSsd POd PGd PGsd PId
/-! ### try -/
section
variable {X : Cx} {G : Gx} {a e : Expr} {es : List Expr} {pos p : Pos} {fs : Fv} {t : Tv} {x : Str} {k : Nat} {ps : List Str} {m : Mir} {st : Stmt} {sts : List Stmt} {sa sb : Sv}
/-- an error of the class c has come out of a call -/
noncomputable def Came (X : Cx) (pins : List (Addr × Obj)) (σ : St) (Hi H : Hp) (c : Str) (ev : Value) (s' : Shared) : Prop :=
  ∃ (s1 : Shared) (H1 : Hp) (ea : Addr) (cls : Value) (Hi' H' : Hp), ev = .ref ea ∧ Inv X pins σ H1 s1 ∧ X.mg c = some cls ∧ Fly X.prog X.w X.stack H1 H' s1 ea cls s' ∧ Ext Hi H Hi' H' ∧ Keep H H1
/-- the end of a body of try; errors apart -/
noncomputable def FinT (X : Cx) (G : Gx) (Hi : Hp) (E : Ends) (r : Res Fl) : Prop := match r with
  | .err _ => True
  | r => Fin X G Hi E r
@[irreducible] noncomputable def PSx (X : Cx) (G : Gx) (st : Stmt) (f : Sv) : Prop := ∀ (pins : List (Addr × Obj)) (s : Shared) (σ : St) (H : Hp) (E : Ends) (ρ : Rho) (Hi : Hp) (Et : Value → Shared → Prop),
  Inv X pins σ H s → RelX X G Hi H σ ρ → f ρ ≠ .no → FinT X G Hi E (f ρ) → (∀ c ev s', f ρ = .err c → Came X pins σ Hi H c ev s' → Et ev s') → wpAny (model X.prog X.w) X.A (exec st X.env) (SP X pins E) Et s
unseal PSx
@[irreducible] noncomputable def PSsx (X : Cx) (G : Gx) (sts : List Stmt) (f : Sv) : Prop := ∀ (pins : List (Addr × Obj)) (s : Shared) (σ : St) (H : Hp) (E : Ends) (ρ : Rho) (Hi : Hp) (Et : Value → Shared → Prop),
  Inv X pins σ H s → RelX X G Hi H σ ρ → f ρ ≠ .no → FinT X G Hi E (f ρ) → (∀ c ev s', f ρ = .err c → Came X pins σ Hi H c ev s' → Et ev s') → wpAny (model X.prog X.w) X.A (execs sts X.env) (SP X pins E) Et s
unseal PSsx
end
end L3

namespace L3
open PySem PySem.Spec PyProof.Rows L2 PySem.W
unseal PEd PEf PTd PWd PAd PSd PSsd POd PGd PGsd PId PSx PSsx
section
variable {X : Cx} {G : Gx} {k : Nat} {fb fh : Sv} {body suite : List Stmt} {b₀ : Stmt} {ce n : Str} {np hpos pos : Pos} {i : Nat} {tb : List Str}
end
end L3

namespace L3
open PySem PySem.Spec PyProof.Rows L2 PySem.W
unseal PEd PEf PTd PWd PAd PSd PSsd POd PGd PGsd PId PSx PSsx
section
variable {X : Cx} {G : Gx} {a : Expr} {p q pos : Pos} {i : Nat} {anc : List (Str × List Str)} {xs : List Str} {x : Str}
end
end L3

namespace L3
open PySem PySem.Spec PyProof.Rows L2 PySem.W
unseal PEd PEf PTd PWd PAd PSd PSsd POd PGd PGsd PId PSx PSsx
section
variable {K : Frag} {h : Heap} {mg : Str → Option Value} {x c ce : Str} {C CE : Addr}
theorem err_mk {newId : String} {bmB : List Value} {B initId : String} (X : K.In h) (G : h.Ns mainGlobals mg) (e : nsIn K mainGlobals x = some (some (.ref C))) (q : excIn K C bmB newId = true) (F : ExcBaseFacts B newId initId bmB) : ∃ C, Err K mg x C := by
  refine ⟨C, ⟨fun h' X' => ⟨bmB, newId, B, initId, ⟨mg_of X G e, ?_⟩, F⟩⟩⟩
  unfold excIn at q
  split at q
  · rename_i dd cd sl ho
    split at q
    · rename_i C' bm k0 k1 k2 k3 n k5 hm hs
      simp only [Bool.and_eq_true, beq_iff_eq, Bool.not_eq_true'] at q
      obtain ⟨⟨⟨⟨⟨rfl, rfl⟩, hdel⟩, ht⟩, hok⟩, hni⟩ := q
      obtain ⟨nm, bs, mro, ns, qn, hd, sn, sub, ab, col, del⟩ := cd
      dsimp only at hm hdel hok hni
      subst hm hdel
      have hsl : sl = #[k0, k1, k2, k3, some (.builtin n), k5] := by
        obtain ⟨l⟩ := sl
        simp only at hs
        rw [hs]
      subst hsl
      exact ⟨bm, ns, nm, qn, bs, hd, sn, sub, ab, col, dd, k0, k1, k2, k3, k5, _, X' _ _ ho, .of_isNs (isNs_of_in X' hok), nsMap_none_of_in X' hok hni, tail_of_in X' ht⟩
    · cases q
  · cases q
end
end L3

namespace L3
open PySem PySem.Spec PyProof.Rows L2
unseal PEd PEf PTd PWd PAd PSd PSsd POd PGd PGsd PId PSx PSsx
/-! ### a comprehension's block -/
/-- the cells that a block takes over -/
noncomputable def cloG (env : Env) : List (Str × NameKind) → List (Str × Addr) → List (Str × Addr)
  | [], cs => cs
  | (n, k) :: r, cs => cloG env r (if k == .free then (n, (env.cells.lookup n).getD 0) :: cs else cs)
theorem clo_go {env : Env} : ∀ (l : List (Str × NameKind)) (cs : List (Str × Addr)), (∀ p ∈ l, p.2 = .free → ∃ c, env.cells.lookup p.1 = some c) →
    (forIn l cs (fun p (r : List (Str × Addr)) => if (p.2 == NameKind.free) = true then (do let a ← cellOf env p.1; pure (ForInStep.yield ((p.1, a) :: r))) else pure (ForInStep.yield r)) : Sem (List (Str × Addr))) = pure (cloG env l cs)
  | [], cs, _ => by simp [cloG]
  | (n, k) :: r, cs, h => by
    rw [List.forIn_cons, cloG]
    have ih := fun cs => clo_go r cs fun p hp => h p (List.mem_cons_of_mem _ hp)
    by_cases e : (k == NameKind.free) = true
    · obtain ⟨c, hc⟩ := h (n, k) List.mem_cons_self (beq_iff_eq.mp e)
      simp only [e, if_true, cellOf, hc, pure_bind, Option.getD_some]
      exact ih _
    · simp only [e, Bool.false_eq_true, if_false, pure_bind]
      exact ih _
theorem clo_eq {env : Env} {scope : Scope} (h : ∀ p ∈ scope.names, p.2 = .free → ∃ c, env.cells.lookup p.1 = some c) : closureFor scope env = pure (cloG env scope.names []) := by
  have := clo_go scope.names [] h
  unfold closureFor
  rw [← this]
  simp

theorem clo_sub {env : Env} : ∀ (l : List (Str × NameKind)) (cs : List (Str × Addr)), (∀ p ∈ l, p.2 = .free → ∃ c, env.cells.lookup p.1 = some c) → (∀ y c, cs.lookup y = some c → env.cells.lookup y = some c) →
    ∀ y c, (cloG env l cs).lookup y = some c → env.cells.lookup y = some c
  | [], cs, _, h, y, c, e => h y c e
  | (n, k) :: r, cs, hl, h, y, c, e => by
    rw [cloG] at e
    refine clo_sub r _ (fun p hp => hl p (List.mem_cons_of_mem _ hp)) (fun y c e => ?_) y c e
    by_cases z : (k == NameKind.free) = true
    · obtain ⟨c', hc⟩ := hl (n, k) List.mem_cons_self (beq_iff_eq.mp z)
      simp only [z, if_true, List.lookup_cons, hc, Option.getD_some] at e
      cases w : y == n with
      | true => rw [w] at e; cases e; rw [beq_iff_eq.mp w]; exact hc
      | false => rw [w] at e; exact h y c e
    · simp only [z, Bool.false_eq_true, if_false] at e
      exact h y c e
theorem clo_keep {env : Env} : ∀ (l : List (Str × NameKind)) (cs : List (Str × Addr)) (y : Str), (∃ c, cs.lookup y = some c) → ∃ c, (cloG env l cs).lookup y = some c
  | [], cs, y, h => h
  | (n, k) :: r, cs, y, ⟨c, h⟩ => by
    rw [cloG]
    refine clo_keep r _ y ?_
    split
    · rw [List.lookup_cons]
      cases y == n with
      | true => exact ⟨_, rfl⟩
      | false => exact ⟨c, h⟩
    · exact ⟨c, h⟩
theorem clo_has {env : Env} : ∀ (l : List (Str × NameKind)) (cs : List (Str × Addr)) (y : Str), (y, NameKind.free) ∈ l → ∃ c, (cloG env l cs).lookup y = some c
  | (n, k) :: r, cs, y, h => by
    rw [cloG]
    rcases List.mem_cons.mp h with e | h
    · cases e
      refine clo_keep r _ _ ⟨(env.cells.lookup n).getD 0, ?_⟩
      simp only [beq_self_eq_true, if_true, List.lookup_cons]
    · exact clo_has r _ y h
theorem lookup_mem' {α : Type} : ∀ {l : List (Str × α)} {y : Str} {k : α}, l.lookup y = some k → (y, k) ∈ l
  | (n, k') :: r, y, k, h => by
    rw [List.lookup_cons] at h
    cases z : y == n with
    | true => rw [z] at h; cases h; rw [beq_iff_eq.mp z]; exact List.mem_cons_self
    | false => rw [z] at h; exact List.mem_cons_of_mem _ (lookup_mem' h)
/-- the kinds within the block -/
theorem rel_lookup {env : Env} : ∀ {l : List (Str × NameKind)} {y : Str} {k : NameKind},
    (l.map fun (n, k) => if (k == NameKind.free && env.scope.kind == .function && env.kindOf n == some .cell) then (n, NameKind.cell) else (n, k)).lookup y = some k →
    l.lookup y = some k ∨ (k = .cell ∧ l.lookup y = some .free)
  | (n, k') :: r, y, k, h => by
    rw [List.map_cons] at h
    rw [List.lookup_cons]
    by_cases c : (k' == NameKind.free && env.scope.kind == .function && env.kindOf n == some .cell) = true
    · simp only [c, if_true, List.lookup_cons] at h
      cases z : y == n with
      | true =>
        rw [z] at h
        cases h
        refine .inr ⟨rfl, ?_⟩
        simp only [Bool.and_eq_true] at c
        rw [beq_iff_eq.mp c.1.1]
      | false => rw [z] at h; exact rel_lookup h
    · simp only [c, Bool.false_eq_true, if_false, List.lookup_cons] at h
      cases z : y == n with
      | true => rw [z] at h; exact .inl h
      | false => rw [z] at h; exact rel_lookup h
noncomputable def msk (x y : Str) : Str := if y = x then ("" : Str) else y
structure BlkOk (X : Cx) (x : Str) (scope : Scope) : Prop where
  kind : scope.kind = .function
  cell : ∀ y ∈ scope.names, y.2 ≠ .cell
  loc : scope.names.lookup x = some .local
  names : ∀ y ∈ scope.names, y.2 = .local → scope.names.lookup y.1 = some .local
  fre : ∀ p ∈ scope.names, p.2 = .free → X.env.kindOf p.1 = some .cell ∨ X.env.kindOf p.1 = some .free
  oth : ∀ y ∈ X.N, y ≠ x → scope.names.lookup y ≠ some .local
  emp : scope.names.lookup ("" : Str) = none
/-- the block's context -/
noncomputable def cxC (X : Cx) (x : Str) (scope : Scope) (C : Addr) (s₂ : Shared) (H₂ : Hp) (fp : List Addr) : Cx :=
  { prog := X.prog, w := X.w, K := X.K, mg := X.mg, base := X.base, A := X.A, N := X.N.map (msk x) ++ [x], s₀ := s₂, H₀ := H₂, env := compEnvC scope (cloG X.env scope.names []) C X.env, outer := X.stack, stack := X.stack,
    ex := fp, fn := fun _ => false, calm := X.calm, pn := X.pn, xe := fun _ _ => False }
section
variable {X : Cx} {pins : List (Addr × Obj)} {σ : St} {H : Hp} {s₂ : Shared} {x : Str} {scope : Scope} {fp : List Addr} {D C : Addr} {h₁ : Heap}
theorem BlkOk.cl (B : BlkOk X x scope) (I : Inv X pins σ H s₂) : ∀ p ∈ scope.names, p.2 = .free → ∃ c, X.env.cells.lookup p.1 = some c := fun p hp e => I.ok.has p.1 (B.fre p hp e)
theorem enter (I : Inv X pins σ H s₂) (B : BlkOk X x scope) (hfp : ∀ b ∈ fp, FpOk X pins H b) (hfl : ∀ b ∈ fp, b < s₂.heap.objs.size) (hD : s₂.heap.objs.size ≤ D) (hC : s₂.heap.objs.size ≤ C) (hDC : D ≠ C)
    (old : ∀ b o, s₂.heap.get? b = some o → h₁.get? b = some o) {n : Nat} (hacc : h₁.get? D = some { cls := .type "list", data := .seq ([] : List Value).toArray n }) {m : Str → Option Value} (hns : h₁.Ns C m) (t : Nat) :
    Inv (cxC X x scope C s₂ H fp) pins (σ ++ [none]) (upd H D (.lst [])) { s₂ with heap := h₁, toks := t } := by
  have sub := clo_sub scope.names [] (B.cl I) (fun y c e => nomatch e)
  have old_lt : ∀ {b : Addr} {o : Obj}, s₂.heap.get? b = some o → b ≠ D ∧ b ≠ C := fun e => ⟨Nat.ne_of_lt (Nat.lt_of_lt_of_le (Heap.lt_size e) hD), Nat.ne_of_lt (Nat.lt_of_lt_of_le (Heap.lt_size e) hC)⟩
  have free : ∀ {b : Addr}, b ≠ D → H b = none → upd H D (.lst []) b = none := fun n e => by rw [upd_ne n]; exact e
  refine ⟨⟨I.ok.mod, B.kind, I.ok.glob, I.ok.blt, hC, fun y z c e1 e2 => I.ok.inj y z c (sub y c e1) (sub z c e2), fun y hy => ?_, fun y c e => (nomatch e), I.ok.hd, I.ok.frames, .inl rfl, fun b hb => ⟨Nat.ne_of_lt (Nat.lt_of_lt_of_le (hfl b hb) hC), fun y c e => (hfp b hb).2.2.2.2.1 y c (sub y c e)⟩,
    I.bs, Nat.le_trans I.ok.bsz I.sz, fun b o e hb => ?_, fun b hb z => ?_, I.stack, I.stkFree⟩, rfl, I.bare, Un.laid old hD (I.hok.fresh hD), ⟨m, hns, fun i y v e1 e2 e3 => ?_⟩, fun y c e => ?_, free (Ne.symm hDC) (I.hok.fresh hC), fun y c e => ?_, fun p hp => ?_, I.hok.laid old hD ⟨Nat.zero_le _, [], n, .nil, hacc⟩, ?_⟩
  · have : ∃ k, (k = NameKind.cell ∨ k = NameKind.free) ∧ ((relabel scope X.env).names).lookup y = some k := hy.elim (fun h => ⟨_, .inl rfl, h⟩) fun h => ⟨_, .inr rfl, h⟩
    obtain ⟨k, hk, e⟩ := this
    have e' : (y, NameKind.free) ∈ scope.names := by
      rcases rel_lookup e with z | ⟨_, z⟩
      · rcases hk with rfl | rfl
        · exact absurd rfl (B.cell _ (lookup_mem' z))
        · exact lookup_mem' z
      · exact lookup_mem' z
    exact clo_has scope.names [] y e'
  · rcases (hfp b hb).2.2.2.1 with z | z
    · exact I.ok.noex b o e z
    · exact absurd (Nat.lt_of_lt_of_le (Heap.lt_size e) (Nat.le_trans I.ok.bsz z)) (Nat.lt_irrefl _)
  · rcases List.mem_cons.mp (I.stkSub b z) with w | w
    · exact (hfp b hb).2.1 w
    · exact (hfp b hb).2.2.1 w
  · -- a name of the def that the block sees
    have hi : i < σ.length := by
      by_cases hi : i < σ.length
      · exact hi
      · exfalso
        rw [List.getElem?_append_right (by omega)] at e2
        cases q : i - σ.length with
        | zero => rw [q] at e2; cases e2
        | succ j => rw [q] at e2; cases e2
    rw [List.getElem?_append_left hi] at e2
    have e1' : (X.N.map (msk x) ++ [x])[i]? = some y := e1
    rw [List.getElem?_append_left (by rw [List.length_map, ← I.len]; exact hi), List.getElem?_map] at e1'
    cases q : X.N[i]? with
    | none => rw [q] at e1'; cases e1'
    | some z =>
      rw [q] at e1'
      have e1'' : msk x z = y := Option.some.inj e1'
      have hz : z ∈ X.N := List.mem_of_getElem? q
      have vis : ∃ k, ((relabel scope X.env).names).lookup y = some k := e3.elim (fun h => ⟨_, h⟩) fun h => h.elim (fun h => ⟨_, h⟩) fun h => ⟨_, h⟩
      have hzx : z ≠ x := fun w => by
        obtain ⟨k, hk⟩ := vis
        have : y = ("" : Str) := by rw [← e1'', w]; exact if_pos rfl
        rw [this] at hk
        rcases rel_lookup hk with h | ⟨_, h⟩ <;> (rw [B.emp] at h; cases h)
      have hy : z = y := by rw [← e1'']; exact (if_neg hzx).symm
      subst hy
      have fr : (z, NameKind.free) ∈ scope.names := by
        rcases e3 with h | h | h
        · rcases rel_lookup h with h | ⟨h, _⟩
          · exact absurd h (B.oth z hz hzx)
          · cases h
        · rcases rel_lookup h with h | ⟨_, h⟩
          · exact absurd rfl (B.cell _ (lookup_mem' h))
          · exact lookup_mem' h
        · rcases rel_lookup h with h | ⟨h, _⟩
          · exact lookup_mem' h
          · cases h
      have kd := B.fre _ fr rfl
      obtain ⟨m0, hn0, hl⟩ := I.loc
      obtain ⟨u, ru, lk⟩ := hl i z v q e2 (kd.elim (fun h => .inr (.inl h)) fun h => .inr (.inr h))
      refine ⟨u, ru, .inr ⟨?_, ?_⟩⟩
      · rcases e3 with h | h | h
        · rcases rel_lookup h with h | ⟨h, _⟩
          · exact absurd h (B.oth z hz hzx)
          · cases h
        · exact .inl h
        · exact .inr h
      · rcases lk with ⟨k1, _⟩ | ⟨_, c, hc, hcell⟩
        · rcases kd with kd | kd <;> (rw [kd] at k1; cases k1)
        · obtain ⟨c', hc'⟩ := clo_has (env := X.env) scope.names [] z fr
          have := sub z c' hc'
          rw [hc] at this
          cases this
          obtain ⟨o, ho, hd⟩ := hcell
          exact ⟨c, hc', o, old _ _ ho, hd⟩
  · obtain ⟨v, o, ho, hd⟩ := I.cell y c (sub y c e)
    exact ⟨v, o, old _ _ ho, hd⟩
  · obtain ⟨v, o, ho, hd⟩ := I.cell y c (sub y c e)
    exact free (old_lt ho).1 (I.freeC y c (sub y c e))
  · obtain ⟨e, n, ne, nf, d⟩ := I.pin p hp
    refine ⟨old _ _ e, free (old_lt e).1 n, (old_lt e).2, fun z => ?_, d⟩
    rcases List.mem_cons.mp (I.stkSub _ z) with w | w
    · exact ne w
    · exact nf w
  · show (σ ++ [none]).length = (X.N.map (msk x) ++ [x]).length
    rw [List.length_append, List.length_append, List.length_map, I.len]; rfl
end
end L3

namespace L3
open PySem PySem.Spec PyProof.Rows L2
unseal PEd PEf PTd PWd PAd PSd PSsd POd PGd PGsd PId PSx PSsx
section
variable {K : PySem.W.Frag} {mg : Str → Option Value} {B Bi Hi H Hi' H' : Hp} {σ : St} {ρ : Rho}
/-- one name more, bound to a value -/
theorem Rel.snoc {v : V} {d : D} (R : Rel K mg B Bi Hi H σ ρ) (h : IsD K Hi v d) : Rel K mg B Bi Hi H (σ ++ [some v]) (ρ ++ [.val d]) where
  len := by rw [List.length_append, List.length_append, R.len]; rfl
  ext := R.ext
  slot := fun j s q => by
    by_cases hl : j < ρ.length
    · rw [List.getElem?_append_left hl] at q
      rw [List.getElem?_append_left (by rw [R.len]; exact hl)]
      exact R.slot j s q
    · rw [List.getElem?_append_right (by omega)] at q
      rw [List.getElem?_append_right (by rw [R.len]; omega), R.len]
      cases z : j - ρ.length with
      | zero => rw [z] at q; cases q; exact ⟨v, rfl, h⟩
      | succ n => rw [z] at q; cases q
  dist := fun j k a ds es q1 q2 q3 q4 => by
    have own : ∀ {j : Nat} {ds : List D}, (ρ ++ [Sl.val d])[j]? = some (.own ds) → j < ρ.length := fun {j ds} q => by
      by_cases hl : j < ρ.length
      · exact hl
      · rw [List.getElem?_append_right (by omega)] at q
        cases z : j - ρ.length with
        | zero => rw [z] at q; cases q
        | succ n => rw [z] at q; cases q
    have h1 := own q1
    have h2 := own q2
    rw [List.getElem?_append_left h1] at q1
    rw [List.getElem?_append_left h2] at q2
    rw [List.getElem?_append_left (by rw [R.len]; exact h1)] at q3
    rw [List.getElem?_append_left (by rw [R.len]; exact h2)] at q4
    exact R.dist j k a ds es q1 q2 q3 q4
/-- a list that is new since then is written -/
theorem Ext.rewrite {a : Addr} {o : HO} (e : Ext Hi H Hi' H') (hn : H a = none) (hi : Hi' a = none) (hl : ∃ xs, H' a = some (.lst xs)) : Ext Hi H Hi' (upd H' a o) where
  i := e.i
  h := ⟨fun b u z => by rw [upd_ne (ne_of_none z hn)]; exact e.h.k _ _ z, fun P z => by
    obtain ⟨xs, hl⟩ := hl
    exact (e.h.t P z).put (fun ps y => by rw [hl] at y; cases y) (fun ob u y => by rw [hl] at y; cases y)⟩
  s := fun b u z => by rw [upd_ne (ne_of_none z hi)]; exact e.s _ _ z
  n := e.n
theorem IsDs.snoc {v : V} {d : D} (h : IsD K H v d) : ∀ {vs : List V} {ds : List D}, IsDs K H vs ds → IsDs K H (vs ++ [v]) (ds ++ [d])
  | _, _, .nil => .cons h .nil
  | _, _, .cons r t => .cons r (IsDs.snoc h t)
end
theorem noErr_is {α : Type} {r : Res α} {a : α} (h : noErr r = .ok a) : r = .ok a := by
  cases r with
  | ok b => exact h
  | err c => cases h
  | no => cases h
theorem compD_cons {t : Tv} {f : Ev} {ρ : Rho} {d : D} {ds es : List D} (h : compD t f ρ (d :: ds) = .ok es) :
    (t (ρ ++ [.val d]) = .ok false ∧ compD t f ρ ds = .ok es) ∨ (t (ρ ++ [.val d]) = .ok true ∧ ∃ e es', f (ρ ++ [.val d]) = .ok e ∧ compD t f ρ ds = .ok es' ∧ es = e :: es') := by
  rw [compD] at h
  cases ht : noErr (t (ρ ++ [.val d])) with
  | no => rw [ht] at h; cases h
  | err c => rw [ht] at h; cases h
  | ok c =>
    rw [ht] at h
    have ht' := noErr_is ht
    cases c with
    | false => exact .inl ⟨ht', h⟩
    | true =>
      refine .inr ⟨ht', ?_⟩
      have h' : ((noErr (f (ρ ++ [.val d]))).bind fun e => (compD t f ρ ds).bind fun es => .ok (e :: es)) = .ok es := h
      cases hf : noErr (f (ρ ++ [.val d])) with
      | no => rw [hf] at h'; cases h'
      | err c => rw [hf] at h'; cases h'
      | ok e =>
        rw [hf] at h'
        have h'' : ((compD t f ρ ds).bind fun es => .ok (e :: es)) = .ok es := h'
        cases hr : compD t f ρ ds with
        | no => rw [hr] at h''; cases h''
        | err c => rw [hr] at h''; cases h''
        | ok es' =>
          rw [hr] at h''
          cases h''
          exact ⟨e, es', noErr_is hf, rfl, rfl⟩
theorem compD_ne {t : Tv} {f : Ev} {ρ : Rho} {c : Str} : ∀ {ds : List D}, compD t f ρ ds ≠ .err c
  | [] => fun h => by cases h
  | d :: ds => fun h => by
    rw [compD] at h
    cases ht : noErr (t (ρ ++ [.val d])) with
    | no => rw [ht] at h; cases h
    | err c => cases q : t (ρ ++ [.val d]) <;> (rw [q] at ht; cases ht)
    | ok b =>
      rw [ht] at h
      cases b with
      | false => exact compD_ne h
      | true =>
        have h' : ((noErr (f (ρ ++ [.val d]))).bind fun e => (compD t f ρ ds).bind fun es => .ok (e :: es)) = .err c := h
        cases hf : noErr (f (ρ ++ [.val d])) with
        | no => rw [hf] at h'; cases h'
        | err c => cases q : f (ρ ++ [.val d]) <;> (rw [q] at hf; cases hf)
        | ok e =>
          rw [hf] at h'
          cases hr : compD t f ρ ds with
          | no => simp only [Res.bind, hr] at h'; cases h'
          | err c' => exact compD_ne hr
          | ok es => simp only [Res.bind, hr] at h'; cases h'
/-- the tests of a clause -/
@[irreducible] noncomputable def PTs (X : Cx) (G : Gx) (ifs : List Expr) (t : Tv) : Prop :=
  ∀ (pins : List (Addr × Obj)) (s : Shared) (σ : St) (H : Hp) (Q : Bool → Hp → Prop), Inv X pins σ H s → tTb X G t σ H Q →
    wpAny (model X.prog X.w) X.A (forIn ifs true fun c r => if r = true then do let ok ← isTrue c X.env (eval c X.env); pure (ForInStep.yield ok) else pure (ForInStep.yield r)) (TP X pins σ Q) X.xe s
unseal PTs
theorem ts_nil {X : Cx} {G : Gx} : PTs X G [] tTrue := fun pins s σ H Q I ⟨ρ, Hi, R, o⟩ => wpAny_tests_nil ⟨H, I, Out.here (a := true) o R.s⟩
end L3

namespace L3
open PySem PySem.Spec PyProof.Rows L2
unseal PEd PEf PTd PWd PAd PSd PSsd POd PGd PGsd PId PSx PSsx PTs
section
variable {X : Cx} {G : Gx} {elt iter : Expr} {x : Str} {px pos : Pos} {ifs : List Expr} {scope : Scope} {it : Fv} {t : Tv} {f : Ev} {k : Nat}
/-- ahead of a store to a name nothing goes -/
theorem go_name {M : Model} {A : Around} {α : Type} {m : Sem α} {itv u : Value} {s : Shared} {Q1 : Unit → Shared → Prop} {R1 : α → Shared → Prop} {E : Value → Shared → Prop} (h : wpAny M A (letOwnedTupleGo (.Name x px) itv u) Q1 E s)
    (k : ∀ s5, Q1 () s5 → wpAny M A m R1 E s5) : wpAny M A m R1 E s := by
  have key := wpAny_bind (f := fun _ : Unit => m) (wpAny_mono h (fun _ s5 h5 => k s5 h5) fun _ _ z => z)
  have e : (letOwnedTupleGo (.Name x px) itv u >>= fun _ => m) = m := pure_bind () fun _ => m
  rw [e] at key
  exact key
theorem nodup_msk {N : List Str} (hN : N.Nodup) (h0 : ("" : Str) ∉ N) (hx : x ≠ ("" : Str)) : (N.map (msk x) ++ [x]).Nodup := by
  rw [List.nodup_append]
  refine ⟨?_, List.nodup_cons.mpr ⟨by simp, List.nodup_nil⟩, fun a ha b hb e => ?_⟩
  · induction N with
    | nil => exact List.nodup_nil
    | cons y N ih =>
      rw [List.map_cons, List.nodup_cons]
      obtain ⟨hy, hN⟩ := List.nodup_cons.mp hN
      refine ⟨fun hm => ?_, ih hN fun z => h0 (List.mem_cons_of_mem _ z)⟩
      obtain ⟨z, hz, e⟩ := List.mem_map.mp hm
      unfold msk at e
      by_cases c1 : z = x
      · by_cases c2 : y = x
        · exact hy (by rw [c2, ← c1]; exact hz)
        · rw [if_pos c1, if_neg c2] at e; exact h0 (by rw [e]; exact List.mem_cons_self)
      · by_cases c2 : y = x
        · rw [if_neg c1, if_pos c2] at e; exact h0 (by rw [← e]; exact List.mem_cons_of_mem _ hz)
        · rw [if_neg c1, if_neg c2] at e; exact hy (by rw [← e]; exact hz)
  · obtain ⟨z, hz, e1⟩ := List.mem_map.mp ha
    rw [List.mem_singleton] at hb
    subst hb
    subst e
    unfold msk at e1
    split at e1
    · exact hx e1.symm
    · rename_i c; exact c e1
/-- how far a comprehension has come -/
structure CW where
  i : Nat
  v : List (Option V)
  H : Hp
  Hi : Hp
  ys : List V
  done : List D
  rest : List D
structure CS (Y : Cx) (pins : List (Addr × Obj)) (σ : St) (tn : Nat → Heap → Prop) (fp : List Addr) (Hi2 H2 : Hp) (a : Addr) (m : Nat) (cp : Nat → Res (List D)) (es : List D) (c : CW) (s' : Shared) : Prop where
  inv : Inv Y pins (σ ++ c.v) c.H s'
  wid : c.v.length = m
  tn : tn c.i s'.heap
  fr : ∀ b ∈ fp, c.H b = none
  ext : Ext Hi2 H2 c.Hi c.H
  acc : c.H a = some (.lst c.ys)
  hi : c.Hi a = none
  isd : IsDs Y.K c.Hi c.ys c.done
  len : c.done.length ≤ c.i
  cmp : cp c.i = .ok c.rest
  all : es = c.done ++ c.rest
/-- what PC tells of a comprehension whose value is used while its block still stands -/
noncomputable def EndC (X : Cx) (pins : List (Addr × Obj)) (σ : St) (use : Option (Value → Sem Unit)) (Q' : Value → Shared → Prop) (Qa : Addr → Hp → Prop) : Prop :=
  ∀ (C A : Addr) (m : Str → Option Value) (s4 : Shared) (H3 : Hp), s4.heap.Ns C m → (∀ h', Heap.SameBut C s4.heap h' → Inv X pins σ H3 { s4 with heap := h' }) → FpOk X pins H3 C → Qa A H3 →
    compPost (model X.prog X.w) X.A X.xe use Q' (.ref A) C (.ok .next) s4
theorem comp_core (hc : X.calm = true ∧ TB X.K X.mg G.Bi G.B) (hr : Room k X.A) (Bk : BlkOk X x scope) (hN : X.N.Nodup) (h0 : ("" : Str) ∉ X.N) (hx0 : x ≠ ("" : Str)) (hi : PId X G (.Name x px) iter it)
    (hb : ∀ (C : Addr) (s₂ : Shared) (H₂ : Hp) (fp : List Addr) (G' : Gx), Good (cxC X x scope C s₂ H₂ fp) G' k → PTs (cxC X x scope C s₂ H₂ fp) G' ifs t ∧ PEd (cxC X x scope C s₂ H₂ fp) G' elt f)
    (hs : ∀ x, foldedSetIterable iter X.env x = pure x := by intro _; rfl) 
    {pins : List (Addr × Obj)} {s : Shared} {σ : St} {H Hi : Hp} {ρ : Rho} {use : Option (Value → Sem Unit)} {Q' : Value → Shared → Prop} {Qa : Addr → Hp → Prop} {cpos : Pos} (I : Inv X pins σ H s) (R : RelX X G Hi H σ ρ)
    (ou : Out G Hi H ((fComp it t f) ρ) fun ds Hi' H' => ∀ a, NewL X.K H Hi' H' a ds → Qa a H') (hend : EndC X pins σ use Q' Qa) :
    wpAny (model X.prog X.w) X.A (comprehension (.ListComp elt [⟨.Name x px, iter, ifs, 0⟩] scope pos) scope X.env cpos (newList []) false (eval iter X.env) use) Q' X.xe s := by
  refine wpAny_comprehension_free (use := use) rfl hs (clo_eq (Bk.cl I)) Bk.kind Bk.names ?_
  refine thn (hi pins s σ H (fun J H2 => ∃ ds Hi2, Ext Hi H Hi2 H2 ∧ Gives X.K Hi2 J ds ∧ Out G Hi2 H2 (if ds.length ≤ 16777215 then compD t f ρ ds else .no) fun ds Hi' H' => ∀ a, NewL X.K H Hi' H' a ds → Qa a H') I
    ⟨ρ, Hi, R, (Out.bind ou).imp fun ds Hi2 H2 e2 o2 J gv => ⟨ds, Hi2, e2, gv, o2⟩⟩) fun v s1 h1 => thn h1 fun itv s2 h2 => ?_
  obtain ⟨itA, fp, tn, J, H2, rfl, I2, T, st2, f2, ds, Hi2, e2, gv, ou2⟩ := h2
  have hlen : ds.length ≤ 16777215 := by
    by_cases hlen : ds.length ≤ 16777215
    · exact hlen
    · rw [if_neg hlen] at ou2; exact ou2.elim
  rw [if_pos hlen] at ou2
  cases hes : compD t f ρ ds with
  | no => rw [hes] at ou2; exact ou2.elim
  | err c => exact absurd hes compD_ne
  | ok es =>
    rw [hes] at ou2
    have R2 : RelX X G Hi2 H2 σ ρ := R.grow e2
    refine wpAny_newObj_type (wpAny_newFunctionEnv Bk.cell (by intro y hy; simp at hy) (fun h₁ hns₁ hsb₁ => ?_) Bk.kind)
    dsimp only at hns₁ hsb₁ ⊢
    generalize hH2 : s2.heap.push { cls := .type "list", dict := none, data := .seq ([] : List Value).toArray } = HP at hns₁ hsb₁ ⊢
    have hC : HP.objs.size = s2.heap.objs.size + 1 := by rw [← hH2, Heap.size_push]
    have hDC : s2.heap.objs.size ≠ HP.objs.size := by rw [hC]; omega
    have ltC : ∀ {b : Addr} {o : Obj}, s2.heap.get? b = some o → b ≠ HP.objs.size := fun e => by rw [hC]; exact Nat.ne_of_lt (Nat.lt_succ_of_lt (Heap.lt_size e))
    have old : ∀ b o, s2.heap.get? b = some o → h₁.get? b = some o := fun b o e => hsb₁.extBut b o (ltC e) (Heap.get?_push_of_some _ (hH2 ▸ Heap.get?_push_of_some _ e))
    have hacc : h₁.get? s2.heap.objs.size = some { cls := .type "list", data := .seq ([] : List Value).toArray 0 } := hsb₁.extBut _ _ hDC (Heap.get?_push_of_some _ (hH2 ▸ Heap.get?_push_size _ rfl))
    have hfl : ∀ b ∈ fp, b < s2.heap.objs.size := fun b hb => by obtain ⟨o, e, _⟩ := T.obj _ _ st2 b hb; exact Heap.lt_size e
    have IE := enter (t := s2.toks + ([] : List (Str × Value)).length) I2 Bk f2 hfl (Nat.le_refl _) (by rw [hC]; omega) hDC old hacc hns₁
    have sub := clo_sub scope.names [] (Bk.cl I2) (fun y c e => nomatch e)
    have H2D : H2 s2.heap.objs.size = none := I2.hok.fresh (Nat.le_refl _)
    have HD : H s2.heap.objs.size = none := e2.h.none H2D
    have Hi2D : Hi2 s2.heap.objs.size = none := e2.s.none H2D
    -- the block
    generalize hX : cxC X x scope HP.objs.size s2 H2 fp = Y at IE
    have GY : Good Y ⟨G.B, G.Bi, fun _ _ => False⟩ k := by
      subst hX
      exact ⟨hc.1, hr, fun pins σ H s e s' _ h => by obtain ⟨_, _, _, _, _, c, _, z⟩ := h; exact z.elim, PassesOwn.never, hc.2⟩
    obtain ⟨hts, hel⟩ := (hX ▸ hb HP.objs.size s2 H2 fp ⟨G.B, G.Bi, fun _ _ => False⟩ (hX.symm ▸ GY) : PTs Y ⟨G.B, G.Bi, fun _ _ => False⟩ ifs t ∧ PEd Y ⟨G.B, G.Bi, fun _ _ => False⟩ elt f)
    have stat : ∀ {H' : Hp}, (∀ b ∈ fp, H' b = none) → ∀ b ∈ fp, FpOk Y pins H' b := fun hn b hb => by
      subst hX
      refine ⟨hn b hb, ?_, fun z => ?_, .inl hb, fun y c e => (f2 b hb).2.2.2.2.1 y c (sub y c e), (f2 b hb).2.2.2.2.2⟩
      · show b ≠ HP.objs.size
        rw [hC]; exact Nat.ne_of_lt (Nat.lt_succ_of_lt (hfl b hb))
      · rcases List.mem_cons.mp (I2.stkSub b z) with w | w
        · exact (f2 b hb).2.1 w
        · exact (f2 b hb).2.2.1 w
    have YN : Y.N.Nodup := by subst hX; exact nodup_msk hN h0 hx0
    have Yx : Y.N[σ.length]? = some x := by
      subst hX
      show (X.N.map (msk x) ++ [x])[σ.length]? = some x
      rw [List.getElem?_append_right (by rw [List.length_map, I2.len]; omega), List.length_map, I2.len, Nat.sub_self]
      rfl
    have Yl : Y.env.scope.names.lookup x = some .local := by subst hX; exact lookup_relabel_local Bk.loc
    have Ye : Y.env = compEnvC scope (cloG X.env scope.names []) HP.objs.size X.env := by subst hX; rfl
    have Yxe : ∀ e s, ¬ Y.xe e s := by subst hX; exact fun _ _ h => h
    have tn1 : tn 0 h₁ := T.keep _ _ _ st2 fun b _ o e => old b o e
    have loop : ∀ s3 : Shared, s3 = { s2 with heap := h₁, toks := s2.toks + ([] : List (Str × Value)).length } →
        codeAny (model X.prog X.w) X.A (.compLoop (.ListComp elt [⟨.Name x px, iter, ifs, 0⟩] scope pos) 0 (.ref itA) (.ref s2.heap.objs.size) Y.env) (compPost (model X.prog X.w) X.A X.xe use Q' (.ref s2.heap.objs.size) HP.objs.size) s3 := by
      rintro s3 rfl
      subst hX
      have fr0 : ∀ b ∈ fp, upd H2 s2.heap.objs.size (.lst []) b = none := fun b hb => by
        rw [upd_ne (Nat.ne_of_lt (hfl b hb))]
        exact (f2 b hb).1
      refine codeAny_compLoop_tests (fun n s' => ∃ c : CW, n = ds.length - c.i ∧ CS (cxC X x scope HP.objs.size s2 H2 fp) pins σ tn fp Hi2 H2 s2.heap.objs.size 1 (fun i => compD t f ρ (ds.drop i)) es c s') ?_ ds.length
        ⟨⟨0, [none], _, Hi2, [], [], es⟩, rfl, ⟨IE, rfl, tn1, fr0, (Ext.refl e2.s).trans (Ext.newF e2.s H2D), upd_same, Hi2D, .nil, Nat.le_refl _, hes, rfl⟩⟩
      · rintro n s3 ⟨⟨i, vv, H3, Hi3, ys, done, rest⟩, rfl, I3, wd3, st3, fr3, e3, hD3, hiD3, rd3, hl3, hr3, hes3⟩
        dsimp only at I3 wd3 st3 fr3 e3 hD3 hiD3 rd3 hl3 hr3 hes3 ⊢
        obtain ⟨v, rfl⟩ : ∃ v, vv = [v] := by
          match vv, wd3 with
          | [v], _ => exact ⟨v, rfl⟩
        obtain ⟨w1, w2⟩ := gv Hi3 H3 e3.i e3.s i
        have lift : ∀ {α : Type} {m : Sem α} {Q' : α → Shared → Prop} {E : Value → Shared → Prop} {s' : Shared}, wpAny (model X.prog X.w) X.A m Q' (cxC X x scope HP.objs.size s2 H2 fp).xe s' → wpAny (model X.prog X.w) X.A m Q' E s' := fun h => wpAny_mono h (fun _ _ z => z) fun e s z => (Yxe e s z).elim
        by_cases hlt : i < ds.length
        · obtain ⟨d, hd⟩ : ∃ d, ds[i]? = some d := ⟨_, List.getElem?_eq_getElem hlt⟩
          obtain ⟨go, yl⟩ := w2 d hd
          have e4 : ds.drop i = d :: ds.drop (i + 1) := by
            rw [List.getElem?_eq_getElem hlt] at hd
            cases hd
            exact List.drop_eq_getElem_cons hlt
          rw [e4] at hr3
          refine thn (T.item (cxC X x scope HP.objs.size s2 H2 fp) rfl rfl rfl hc.1 i pins s3 _ H3 _ I3 (stat fr3) st3 go) fun r s4 ⟨u, hru, h4⟩ => ?_
          subst hru
          refine go_name h4 fun s5 h5 => ?_
          obtain ⟨xv, H5, I5, r5, y5, st5, fr5⟩ := h5
          obtain ⟨Hi5, e5, rd5⟩ := yl xv H5 y5
          have I5' := I5.pinned (stat fr5) (T.obj _ _ st5)
          refine wpAny_assign_Name (store_ok I5' YN Yx (.inl Yl) r5 (fun s6 I6 => ?_) (.inr Yl))
          have es6 : (σ ++ [v]).set σ.length (some xv) = σ ++ [some xv] := by rw [List.set_append_right _ _ (Nat.le_refl _), Nat.sub_self]; rfl
          rw [es6] at I6
          have E5 : Ext Hi2 H2 Hi5 H5 := e3.trans e5
          have R5 : RelX (cxC X x scope HP.objs.size s2 H2 fp) ⟨G.B, G.Bi, fun _ _ => False⟩ Hi5 H5 (σ ++ [some xv]) (ρ ++ [.val d]) := Rel.snoc (R2.grow E5) rd5
          obtain ⟨hD5, hiD5⟩ := e5.out hD3 hiD3
          have rd5' := rd3.mono e5.i
          -- the next turn
          have again : ∀ {H8 Hi8 : Hp} {ys' : List V} {done' rest' : List D} {s8 : Shared}, Inv (cxC X x scope HP.objs.size s2 H2 fp) (pins ++ pinsAt fp s5.heap) (σ ++ [some xv]) H8 s8 → Ext Hi2 H2 Hi8 H8 → H8 s2.heap.objs.size = some (.lst ys') → Hi8 s2.heap.objs.size = none → IsDs X.K Hi8 ys' done' → done'.length ≤ i + 1 →
              compD t f ρ (ds.drop (i + 1)) = .ok rest' → es = done' ++ rest' → ∃ m, m < ds.length - i ∧ ∃ c : CW, m = ds.length - c.i ∧ CS (cxC X x scope HP.objs.size s2 H2 fp) pins σ tn fp Hi2 H2 s2.heap.objs.size 1 (fun i => compD t f ρ (ds.drop i)) es c s8 := fun {H8 Hi8 ys' done' rest' s8} I8 E8 a1 a2 a3 a4 a5 a6 => by
            refine ⟨ds.length - (i + 1), by omega, ⟨i + 1, [some xv], H8, Hi8, ys', done', rest'⟩, rfl, ⟨I8.unpinned, rfl, T.keep _ _ _ st5 fun b hb o e => (I8.pin (b, o) (List.mem_append_right _ (List.mem_append_right _ (mem_pinsAt hb e)))).1, fun b hb => ?_, E8, a1, a2, a3, a4, a5, a6⟩⟩
            obtain ⟨o, e, _⟩ := T.obj _ _ st5 b hb
            exact (I8.pin (b, o) (List.mem_append_right _ (List.mem_append_right _ (mem_pinsAt hb e)))).2.1
          rcases compD_cons hr3 with ⟨ht, hr4⟩ | ⟨ht, e, es', hf, hr4, hee⟩
          · refine lift (thn (hts _ s6 _ H5 (fun b H' => b = false ∧ ∃ Hi', Ext Hi5 H5 Hi' H') I6 ⟨_, Hi5, R5, by rw [ht]; exact fun Hi' H' e => ⟨rfl, Hi', e⟩⟩) fun b s7 h7 => ?_)
            obtain ⟨H7, I7, rfl, Hi7, e7⟩ := h7
            obtain ⟨hD7, hiD7⟩ := e7.out hD5 hiD5
            exact again I7 (E5.trans e7) hD7 hiD7 (rd5'.mono e7.i) (by omega) hr4 hes3
          · refine lift (thn (hts _ s6 _ H5 (fun b H' => b = true ∧ ∃ Hi', Ext Hi5 H5 Hi' H') I6 ⟨_, Hi5, R5, by rw [ht]; exact fun Hi' H' e => ⟨rfl, Hi', e⟩⟩) fun b s7 h7 => ?_)
            obtain ⟨H7, I7, rfl, Hi7, e7⟩ := h7
            obtain ⟨hD7, hiD7⟩ := e7.out hD5 hiD5
            simp only [if_true]
            refine lift (thn (hel _ s7 _ H7 (fun w H' => ∃ Hi', Ext Hi7 H7 Hi' H' ∧ IsD X.K Hi' w e) I7 ⟨_, Hi7, R5.grow e7, by rw [hf]; exact fun Hi' H' ee w hw => ⟨Hi', ee, hw⟩⟩) fun u8 s8 h8 => ?_)
            obtain ⟨w8, H8, I8, r8, Hi8, e8, rw8⟩ := h8
            obtain ⟨hD8, hiD8⟩ := e8.out hD7 hiD7
            have rdy : IsDs X.K Hi8 ys done := (rd5'.mono e7.i).mono e8.i
            refine lift (thn (mt_append (X := (cxC X x scope HP.objs.size s2 H2 fp)) _ s8 _ H8 (.ref s2.heap.objs.size) [w8] (.ref s2.heap.objs.size) [u8] (fun _ H' => H' = upd H8 s2.heap.objs.size (.lst (ys ++ [w8]))) I8 rfl (.cons r8 .nil) ⟨_, ys, w8, rfl, rfl, hD8, ?_, rfl⟩) fun _ s9 h9 => ?_)
            · rw [rdy.length]
              exact Nat.lt_of_le_of_lt hl3 (Nat.lt_of_lt_of_le hlt (Nat.le_trans hlen (by decide)))
            · obtain ⟨_, H9, I9, _, rfl⟩ := h9
              refine again I9 (Ext.rewrite ((E5.trans e7).trans e8) H2D hiD8 ⟨_, hD8⟩) upd_same hiD8 (rdy.snoc rw8) (by rw [List.length_append]; exact Nat.succ_le_succ hl3) hr4 ?_
              rw [hes3, hee, List.append_assoc]; rfl
        · rw [List.drop_eq_nil_of_le (by omega), compD] at hr3
          cases hr3
          refine thn (T.done (cxC X x scope HP.objs.size s2 H2 fp) rfl rfl rfl hc.1 i pins s3 _ H3 _ I3 (stat fr3) st3 (w1 (by omega))) fun r s4 ⟨hrn, I4⟩ => ?_
          subst hrn
          obtain ⟨m4, hn4, _⟩ := I4.loc
          have fC : H3 HP.objs.size = none := I4.free
          have nC : ∀ b u, H3 b = some u → b ≠ HP.objs.size := fun b u e z => by rw [z, fC] at e; cases e
          have U4 := I4.base
          refine hend HP.objs.size s2.heap.objs.size m4 s4 H3 hn4 (fun h' hs' => ?_) (I2.fpOk (by rw [hC]; omega) fC) ?_
          · have kp : ∀ b o, b ≠ HP.objs.size → s4.heap.get? b = some o → h'.get? b = some o := fun b o hb e => hs'.extBut b o hb e
            refine Inv.call' I2 (ch := fp) I4.os ⟨fun b o e n hb hx => kp b o (ltC e) (U4.keep b o e n hb hx), fun b o e n hb hx => ?_, U4.free, fun b o e hx => ?_, U4.tups, U4.frzs, U4.tbls⟩ (fun b u e => ?_) I4.bare (fun b hb => ⟨(f2 b hb).2.2.2.1, (f2 b hb).2.1, (f2 b hb).2.2.2.2.1, (f2 b hb).2.2.2.2.2⟩)
            · obtain ⟨sl, q⟩ := U4.slot b o e n hb hx
              exact ⟨sl, kp b _ (ltC e) q⟩
            · obtain ⟨o', q⟩ := U4.there b o e hx
              exact ⟨o', kp b _ (ltC e) q⟩
            · refine (I4.hok b u e).stay (fun c v hc q => kp c v ?_ q) (fun _ q => q) fun _ _ q => q
              rcases hc with z | z
              · rw [z]; exact nC b u e
              · exact nC c _ z
          · refine ou2 Hi3 H3 e3 _ ⟨HD, hiD3, ys, hD3, ?_⟩
            rw [hes3, List.append_nil]
            exact rd3
    rw [Ye] at loop
    exact codeAny_compStart_list (loop _ rfl) (T.self _ 0 _ _ _ tn1 (loop _ rfl))
theorem pf_comp (hc : X.calm = true ∧ TB X.K X.mg G.Bi G.B) (hr : Room k X.A) (Bk : BlkOk X x scope) (hN : X.N.Nodup) (h0 : ("" : Str) ∉ X.N) (hx0 : x ≠ ("" : Str)) (hi : PId X G (.Name x px) iter it)
    (hb : ∀ (C : Addr) (s₂ : Shared) (H₂ : Hp) (fp : List Addr) (G' : Gx), Good (cxC X x scope C s₂ H₂ fp) G' k → PTs (cxC X x scope C s₂ H₂ fp) G' ifs t ∧ PEd (cxC X x scope C s₂ H₂ fp) G' elt f)
    (hs : ∀ x, foldedSetIterable iter X.env x = pure x := by intro _; rfl) : PEf X G (.ListComp elt [⟨.Name x px, iter, ifs, 0⟩] scope pos) (fComp it t f) := by
  intro pins s σ H Q I w
  obtain ⟨ρ, Hi, R, ou⟩ := w
  rw [eval_ListComp]
  refine comp_core hc hr Bk hN h0 hx0 hi hb hs (use := none) (Qa := fun a H' => Q (.ref a) H') I R ou fun C A m s4 H3 hn hI _ q => ?_
  exact ⟨m, hn, fun h' hs' => ⟨.ref A, H3, hI h' hs', rfl, q⟩⟩
/-- a comprehension whose value is stored while its block still stands -/
noncomputable def PC (X : Cx) (e : Expr) (t : TE) : Prop := ∀ (pins : List (Addr × Obj)) (s : Shared) (σ : St) (H : Hp) (Q : VK), Inv X pins σ H s → t σ H Q → ∀ (u : Value → Sem Unit) (Q' : Unit → Shared → Prop),
  (∀ (C : Addr) (m : Str → Option Value) (s4 : Shared) (v : V) (w : Value) (H3 : Hp), s4.heap.Ns C m → (∀ h', Heap.SameBut C s4.heap h' → Inv X pins σ H3 { s4 with heap := h' }) → FpOk X pins H3 C → RelV v w → Q v H3 →
    wpAny (model X.prog X.w) X.A (u w) (fun _ s'' => ∃ m, s''.heap.Ns C m ∧ ∀ h', Heap.SameBut C s''.heap h' → Q' () { s'' with heap := h' }) X.xe s4) → wpAny (model X.prog X.w) X.A (evalThenUse e X.env u) Q' X.xe s
@[irreducible] noncomputable def PCd (X : Cx) (G : Gx) (e : Expr) (f : Ev) : Prop := PC X e (tD X G f)
unseal PCd
@[irreducible] noncomputable def PCf (X : Cx) (G : Gx) (e : Expr) (f : Fv) : Prop := PC X e (tF X G f)
unseal PCf
end
end L3

namespace L3
open PySem PySem.Spec PyProof.Rows L2
unseal PEd PEf PTd PWd PAd PSd PSsd POd PGd PGsd PId PSx PSsx PTs PCd PCf
noncomputable def blkB (sc : Scope) (N : List Str) (x : Str) (scope : Scope) : Bool :=
  scope.names.all (fun y => y.2 != .cell) && scope.names.lookup x == some .local && scope.names.all (fun y => y.2 != .local || scope.names.lookup y.1 == some .local)
    && scope.names.all (fun p => p.2 != .free || (sc.names.lookup p.1 == some .cell || sc.names.lookup p.1 == some .free)) && N.all (fun y => y == x || scope.names.lookup y != some .local) && (scope.names.lookup ("" : Str)).isNone && !N.contains ("" : Str) && x != ("" : Str)
section
variable {X : Cx} {G : Gx} {elt iter : Expr} {x : Str} {px pos : Pos} {ifs : List Expr} {scope sc : Scope} {it : Fv} {t : Tv} {f : Ev} {k : Nat} {N : List Str}
theorem blk_mk (hk : scope.kind = .function) (hsc : X.env.scope = sc) (hN : X.N = N) (h : blkB sc N x scope = true) : BlkOk X x scope ∧ ("" : Str) ∉ X.N ∧ x ≠ ("" : Str) := by
  unfold blkB at h
  simp only [Bool.and_eq_true] at h
  obtain ⟨⟨⟨⟨⟨⟨⟨h1, h2⟩, h3⟩, h4⟩, h5⟩, h6⟩, h7⟩, h8⟩ := h
  subst hN hsc
  refine ⟨⟨hk, fun y hy e => ?_, beq_iff_eq.mp h2, fun y hy e => ?_, fun p hp e => ?_, fun y hy hne e => ?_, ?_⟩, fun z => ?_, fun z => ?_⟩
  · have := List.all_eq_true.mp h1 y hy
    rw [e] at this; cases this
  · have := List.all_eq_true.mp h3 y hy
    rw [e] at this
    simpa using this
  · have := List.all_eq_true.mp h4 p hp
    rw [e] at this
    have q : X.env.scope.names.lookup p.1 = some .cell ∨ X.env.scope.names.lookup p.1 = some .free := by simpa using this
    exact q
  · have := List.all_eq_true.mp h5 y hy
    rw [e] at this
    simp [hne] at this
  · simpa using h6
  · have : X.N.contains ("" : Str) = true := by simpa using z
    rw [this] at h7; cases h7
  · rw [z] at h8; simp at h8
theorem pf_compB (W : Good X G k) (hnd : N.Nodup) (hk : scope.kind = .function) (hsc : X.env.scope = sc) (hN : X.N = N) (h : blkB sc N x scope = true) (hi : PId X G (.Name x px) iter it)
    (hb : ∀ (C : Addr) (s₂ : Shared) (H₂ : Hp) (fp : List Addr) (G' : Gx), Good (cxC X x scope C s₂ H₂ fp) G' k → PTs (cxC X x scope C s₂ H₂ fp) G' ifs t ∧ PEd (cxC X x scope C s₂ H₂ fp) G' elt f)
    (hs : ∀ x, foldedSetIterable iter X.env x = pure x := by intro _; rfl) : PEf X G (.ListComp elt [⟨.Name x px, iter, ifs, 0⟩] scope pos) (fComp it t f) := by
  obtain ⟨b, h0, hx⟩ := blk_mk hk hsc hN h
  exact pf_comp ⟨W.calm, W.tb⟩ W.room b (hN ▸ hnd) h0 hx hi hb hs
end
end L3

namespace L3
open PySem PySem.Spec PyProof.Rows L2
unseal PEd PEf PTd PWd PAd PSd PSsd POd PGd PGsd PId PSx PSsx PTs PCd PCf
section
variable {X : Cx} {G : Gx} {a b : Expr} {pos : Pos} {f : Fv} {g : Ev}
theorem IsDs.rep {K : PySem.W.Frag} {H : Hp} {xs : List V} {ds : List D} (h : IsDs K H xs ds) : ∀ n : Nat, IsDs K H (List.replicate n xs).flatten (List.replicate n ds).flatten
  | 0 => .nil
  | n + 1 => by
    rw [List.replicate_succ, List.replicate_succ, List.flatten_cons, List.flatten_cons]
    exact h.append (IsDs.rep h n)
theorem pf_rep (ha : PEf X G a f) (hb : PEd X G b g) : PEf X G (.BinOp a .Mult b pos) (fRep f g) := PE.wk (pe_op op_rep ha hb) fun σ H Q q => by
  obtain ⟨ρ, Hi, R, ou⟩ := q
  refine ⟨ρ, Hi, R, (Out.bind ou).imp fun ds Hi1 H1 e1 o1 l nl => ?_⟩
  refine ⟨ρ, Hi1, R.grow e1, (Out.bind o1).imp fun d Hi2 H2 e2 o2 v rv => ?_⟩
  cases d <;> first | exact o2.elim | skip
  rename_i k
  obtain ⟨n1, n2, xs, n3, n4⟩ := nl
  have o2' : Out G Hi2 H2 (if 0 ≤ k ∧ k < 2 ^ 62 ∧ ds.length * k.toNat ≤ 16777216 then Res.ok (List.replicate k.toNat ds).flatten else .no) _ := o2
  by_cases hz : 0 ≤ k ∧ k < 2 ^ 62 ∧ ds.length * k.toNat ≤ 16777216
  · rw [if_pos hz] at o2'
    refine ⟨l, k, xs, rfl, rv.intI, e2.h.at n3, by omega, by omega, by rw [n4.length]; exact hz.2.2, fun p hp => ?_⟩
    exact o2' _ _ (Ext.newF e2.s hp) p ⟨(e1.h.trans e2.h).none hp, e2.s.none hp, _, upd_same, (n4.mono e2.i).rep _⟩
  · rw [if_neg hz] at o2'; exact o2'.elim
end
/-! an argument that is no star, by its kind: nothing of it need be unfolded -/
section
variable {es r : List Expr} {a b f : Expr} {k : Nat} {p : Pos} {x : Str} {c : Const} {env : Env}
theorem star_tup : starEach (.Tuple es k p :: r) env = (false, eval (.Tuple es k p) env) :: starEach r env := rfl
theorem star_lst : starEach (.List es p :: r) env = (false, eval (.List es p) env) :: starEach r env := rfl
theorem star_bin {o : Operator} : starEach (.BinOp a o b p :: r) env = (false, eval (.BinOp a o b p) env) :: starEach r env := rfl
theorem star_sub : starEach (.Subscript a b p :: r) env = (false, eval (.Subscript a b p) env) :: starEach r env := rfl
theorem star_nm : starEach (.Name x p :: r) env = (false, eval (.Name x p) env) :: starEach r env := rfl
theorem star_c : starEach (.Constant c k p :: r) env = (false, eval (.Constant c k p) env) :: starEach r env := rfl
theorem star_call {ks : List Keyword} : starEach (.Call f es ks p :: r) env = (false, eval (.Call f es ks p) env) :: starEach r env := rfl
end
end L3

namespace L3
open PySem PySem.Spec PyProof.Rows L2
unseal PEd PEf PTd PWd PAd PSd PSsd POd PGd PGsd PId PSx PSsx PTs PCd PCf
section
variable {X : Cx} {G : Gx} {e st : Expr} {te tk : TE} {lo hi : Option Expr} {tl th : TO} {pos p2 : Pos} {f g : Ev} {l h : Ov}
end
end L3

set_option maxRecDepth 100000
namespace L3
open PySem PySem.Spec PyProof.Rows L2
section
variable {prog : Program} {w : World} {A : Around} {E : Value → Shared → Prop} {s : Shared}
end
section
unseal PEd PEf PTd PWd PAd PSd PSsd POd PGd PGsd PId PSx PSsx PTs PCd PCf
variable {X : Cx} {G : Gx} {fs : Fv} {f : Ev}
end
end L3

namespace L3
open PySem PySem.Spec PyProof.Rows L2
unseal PEd PEf PTd PWd PAd PSd PSsd POd PGd PGsd PId PSx PSsx PTs PCd PCf
section
variable {X : Cx} {G : Gx}
/-! ### sum(list of numbers) -/
noncomputable def rSum (K : PySem.W.Frag) : List V → Hp → VK → Prop := fun xs H Q => ∃ (a : Addr) (ns : List Int), xs = [.ref a] ∧ (SqL K H a (ns.map V.int) ∨ SqT K H a (ns.map V.int)) ∧ Q (.int ns.sum) H
theorem preSum_at (ns : List Int) : ∀ j, preSum (fun i => ns.getD i 0) j = (ns.take j).sum
  | 0 => by rw [List.take_zero]; rfl
  | j + 1 => by
    rw [preSum, preSum_at ns j, List.take_succ]
    rw [List.getD_eq_getElem?_getD]
    cases ns[j]? with
    | none => simp
    | some x => simp
theorem vals_at {ns : List Int} {its : List Value} (r : Vals (ns.map V.int) its) {i : Nat} {v : Value} (h : its[i]? = some v) : ∃ t, v = .int (ns.getD i 0) t := by
  have hl := r.length
  rw [List.length_map] at hl
  have hi := (List.getElem?_eq_some_iff.mp h).1
  have hx : (ns.map V.int)[i]? = some (.int (ns.getD i 0)) := by
    rw [List.getElem?_map, List.getD_eq_getElem?_getD, List.getElem?_eq_getElem (by omega)]
    rfl
  obtain ⟨u, hu, ru⟩ := r.get hx
  rw [h] at hu
  cases hu
  exact ru
theorem call_sum (hc : X.calm = true) : CallR X (.builtin "sum") (rSum X.K) := by
  intro pins s σ H xs us Q I r h
  obtain ⟨a, ns, rfl, hq, q⟩ := h
  obtain ⟨u, rfl, ru⟩ := r.one
  cases ru
  have hh := I.ok.hd hc
  rcases hq with hq | hq
  · obtain ⟨its, rv, p, hz⟩ := I.list hq
    have hlt : a < s.heap.objs.size := by obtain ⟨_, e, _⟩ := p.isList; exact Heap.lt_size e
    have hl := rv.length
    rw [List.length_map] at hl
    refine call_sum_walkG (wpAny_pyIter_list p.isList ?_)
    refine ⟨s.heap.objs.size, _, _, _, _, _, fun i => ns.getD i 0, rfl, Walks.list (A := X.A.in1) hh s.heap.objs.size a (Nat.ne_of_lt hlt) its.toArray, ⟨⟨_, Heap.get?_push_size _ rfl, rfl, rfl⟩, p.isList.push _⟩, fun b hb => ?_, fun i v hv => vals_at rv (by simpa using hv), fun h' tk t' hk => ?_⟩
    · show b < (s.heap.push _).objs.size
      rw [Heap.size_push]
      rcases List.mem_cons.mp hb with rfl | hb
      · exact Nat.lt_succ_self _
      · rcases List.mem_cons.mp hb with rfl | hb
        · exact Nat.lt_succ_of_lt hlt
        · cases hb
    · refine ⟨.int ns.sum, H, I.kept (t' := tk) fun b o e => hk b o (fun z => ?_) (Heap.get?_push_of_some _ e), ⟨t', ?_⟩, q⟩
      · have z' : b = s.heap.objs.size := by simpa using z
        have l := Heap.lt_size e
        rw [z'] at l
        exact Nat.lt_irrefl _ l
      · rw [List.size_toArray, ← hl, preSum_at, List.take_length]
  · obtain ⟨its, rv, p, hz⟩ := I.tuple hq
    have p' : s.heap.IsTuple a its.toArray := p
    have hlt : a < s.heap.objs.size := by obtain ⟨_, e, _⟩ := p'; exact Heap.lt_size e
    have hl := rv.length
    rw [List.length_map] at hl
    refine call_sum_walkG (wpAny_pyIter_tuple p' ?_)
    refine ⟨s.heap.objs.size, _, _, _, _, _, fun i => ns.getD i 0, rfl, Walks.tuple (A := X.A.in1) hh s.heap.objs.size a (Nat.ne_of_lt hlt) its.toArray, ⟨⟨_, Heap.get?_push_size _ rfl, rfl, rfl⟩, p'.push _⟩, fun b hb => ?_, fun i v hv => vals_at rv (by simpa using hv), fun h' tk t' hk => ?_⟩
    · show b < (s.heap.push _).objs.size
      rw [Heap.size_push]
      rcases List.mem_cons.mp hb with rfl | hb
      · exact Nat.lt_succ_self _
      · rcases List.mem_cons.mp hb with rfl | hb
        · exact Nat.lt_succ_of_lt hlt
        · cases hb
    · refine ⟨.int ns.sum, H, I.kept (t' := tk) fun b o e => hk b o (fun z => ?_) (Heap.get?_push_of_some _ e), ⟨t', ?_⟩, q⟩
      · have z' : b = s.heap.objs.size := by simpa using z
        have l := Heap.lt_size e
        rw [z'] at l
        exact Nat.lt_irrefl _ l
      · rw [List.size_toArray, ← hl, preSum_at, List.take_length]
theorem isDs_intsD {K : PySem.W.Frag} {H : Hp} : ∀ {xs : List V} {ds : List D} {ns : List Int}, IsDs K H xs ds → intsD ds = some ns → xs = ns.map V.int
  | _, _, ns, .nil, h => by cases h; rfl
  | _, _, ns, .cons (d := d) (ds := ds) r rs, h => by
    cases d with
    | int i =>
      rw [intsD] at h
      cases z : intsD ds with
      | none => rw [z] at h; cases h
      | some ms =>
        rw [z] at h
        cases h
        rw [r.intI, isDs_intsD rs z]
        rfl
    | _ => cases h
theorem kb_sum : CallK X (rSum X.K) bSum := ⟨fun a c z => (by
    unfold bSum at z
    split at z
    · split at z <;> cases z
    · split at z <;> cases z
    · cases z), fun Hi H vs ds d Q s r z q => by
    unfold bSum at z
    split at z
    · split at z
      · rename_i ns hns
        cases z
        obtain ⟨v, rfl, h⟩ := r.one
        obtain ⟨a, xs, rfl, h1, h2⟩ := h.lstI
        have e := isDs_intsD h2 hns
        subst e
        exact ⟨a, ns, rfl, .inl (sqL_mono s h1), q _ Hi H (Ext.refl s) (.int _)⟩
      · cases z
    · split at z
      · rename_i ns hns
        cases z
        obtain ⟨v, rfl, h⟩ := r.one
        obtain ⟨a, xs, rfl, h1, h2⟩ := h.tupI
        have e := isDs_intsD h2 hns
        subst e
        exact ⟨a, ns, rfl, .inr (sqT_mono s h1), q _ Hi H (Ext.refl s) (.int _)⟩
      · cases z
    · cases z⟩
theorem boot_sum2 : bootBuiltins "sum" = some (.builtin "sum") := by first | rfl | decide +kernel
end
end L3

namespace L3
open PySem PySem.Spec PyProof.Rows L2
unseal PEd PEf PTd PWd PAd PSd PSsd POd PGd PGsd PId PSx PSsx PTs PCd PCf
/-! ### a, b = list -/
section
variable {prog : Program} {w : World} {A : Around} {E : Value → Shared → Prop} {s : Shared}
end
section
variable {X : Cx} {G : Gx} {es : List Expr} {pos : Pos}
end
theorem ln0 {α : Type} {us : List α} (h : us.length = 0) : us = [] := List.eq_nil_of_length_eq_zero h
theorem ln1 {α : Type} {us : List α} (h : us.length = 1) : ∃ a0 : α, us = [a0] := by
  cases us with
  | nil => cases h
  | cons a r =>
    cases ln0 (Nat.succ.inj h)
    exact ⟨a, rfl⟩
theorem ln2 {α : Type} {us : List α} (h : us.length = 2) : ∃ a0 a1 : α, us = [a0, a1] := by
  cases us with
  | nil => cases h
  | cons a r =>
    obtain ⟨a1, rfl⟩ := ln1 (Nat.succ.inj h)
    exact ⟨a, a1, rfl⟩
theorem ln3 {α : Type} {us : List α} (h : us.length = 3) : ∃ a0 a1 a2 : α, us = [a0, a1, a2] := by
  cases us with
  | nil => cases h
  | cons a r =>
    obtain ⟨a1, a2, rfl⟩ := ln2 (Nat.succ.inj h)
    exact ⟨a, a1, a2, rfl⟩
theorem ln4 {α : Type} {us : List α} (h : us.length = 4) : ∃ a0 a1 a2 a3 : α, us = [a0, a1, a2, a3] := by
  cases us with
  | nil => cases h
  | cons a r =>
    obtain ⟨a1, a2, a3, rfl⟩ := ln3 (Nat.succ.inj h)
    exact ⟨a, a1, a2, a3, rfl⟩
theorem ln5 {α : Type} {us : List α} (h : us.length = 5) : ∃ a0 a1 a2 a3 a4 : α, us = [a0, a1, a2, a3, a4] := by
  cases us with
  | nil => cases h
  | cons a r =>
    obtain ⟨a1, a2, a3, a4, rfl⟩ := ln4 (Nat.succ.inj h)
    exact ⟨a, a1, a2, a3, a4, rfl⟩
theorem ln6 {α : Type} {us : List α} (h : us.length = 6) : ∃ a0 a1 a2 a3 a4 a5 : α, us = [a0, a1, a2, a3, a4, a5] := by
  cases us with
  | nil => cases h
  | cons a r =>
    obtain ⟨a1, a2, a3, a4, a5, rfl⟩ := ln5 (Nat.succ.inj h)
    exact ⟨a, a1, a2, a3, a4, a5, rfl⟩
end L3

namespace L3
open PySem PySem.Spec PyProof.Rows L2
unseal PEd PEf PTd PWd PAd PSd PSsd POd PGd PGsd PId PSx PSsx PTs PCd PCf
section
variable {X : Cx} {G : Gx} {a b c e : Expr} {pos p2 : Pos} {f g h : Ev} {fs : Fv} {lo hi : Option Expr} {l u : Ov}
end
end L3

namespace L3
open PySem PySem.Spec PyProof.Rows L2
unseal PEd PEf PTd PWd PAd PSd PSsd POd PGd PGsd PId PSx PSsx PTs PCd PCf
section
variable {X : Cx} {G : Gx} {a b c e : Expr} {pos p2 p : Pos} {f g h : Ev} {fs : Fv} {x : Str}
/-- a block of which nothing is said -/
theorem ss_no {bl : List Stmt} : PSsd X G bl sNo := fun pins s σ H E I q => by
  obtain ⟨ρ, Hi, R, ou⟩ := q
  exact ou.elim
/-! ### a table of texts at the top of the text -/
noncomputable def tabD (T : List (Str × Str)) : List (Str × KTD.Dat) := T.map fun q => (q.1, .flat (.str q.2))
structure IsTab (K : PySem.W.Frag) (mg : Str → Option Value) (x : Str) (T : List (Str × Str)) (a : Addr) : Prop where
  mg : mg x = some (.ref a)
  tab : ∀ h : Heap, K.In h → KTD.TextTab h a (tabD T)
theorem at_tabD (k : Str) : ∀ T : List (Str × Str), KTD.datumAt k (tabD T) = (T.lookup k).map fun y => .flat (.str y)
  | [] => rfl
  | (x, y) :: r => by
    show (if decide (k = x) = true then some (KTD.Dat.flat (.str y)) else KTD.datumAt k (tabD r)) = _
    rw [List.lookup_cons]
    by_cases hx : k = x
    · rw [if_pos (decide_eq_true hx), show (k == x) = true from beq_iff_eq.mpr hx]; rfl
    · rw [if_neg (by simp [hx]), show (k == x) = false from beq_eq_false_iff_ne.mpr hx]; exact at_tabD k r
theorem in_tabD (k : Str) (T : List (Str × Str)) : KTD.inKeys k (tabD T) = (T.lookup k).isSome := by
  rw [← KTD.isSome_datumAt, at_tabD, Option.isSome_map]
theorem pe_tab {T : List (Str × Str)} {ad : Addr} (t : IsTab X.K X.mg x T ad) (hg : Gl X x) (hd : (x == ("__debug__" : Str)) = false := by decide) : PE X (.Name x p) (tC (.ref ad)) := pe_glob hg t.mg rfl hd
theorem op_notTab {T : List (Str × Str)} {ad : Addr} (t : IsTab X.K X.mg x T ad) : OpR X (compareOp .NotIn) (fun v y H Q => ∃ k, v = .str k ∧ y = .ref ad ∧ Q (.bl (!(T.lookup k).isSome)) H) := by
  intro pins s σ H v y u w Q I rx ry h
  obtain ⟨k, rfl, rfl, q⟩ := h
  obtain ⟨tk, rfl⟩ := rx
  cases ry
  refine KTD.notin_text ⟨t.tab s.heap I.kIn, fun _ _ e => e⟩ ?_
  rw [in_tabD]
  exact ⟨.bl _, H, I.tok _, rfl, q⟩
theorem eachL_tab {h₀ : Heap} {k : Str} {P : Value → Prop} : ∀ {T : List (Str × Str)}, (∀ z t, T.lookup k = some z → P (.str z t)) → KTD.EachL h₀ k P (tabD T)
  | [], _ => trivial
  | [(x, y)], hP => fun hk t => hP y t (by rw [List.lookup_cons, show (k == x) = true from beq_iff_eq.mpr hk])
  | (x, y) :: q :: r, hP => by
    show if decide (k = x) = true then KTD.Opened h₀ P (.flat (.str y)) else KTD.EachL h₀ k P (tabD (q :: r))
    by_cases hk : k = x
    · rw [if_pos (decide_eq_true hk)]
      exact fun t => hP y t (by rw [List.lookup_cons, show (k == x) = true from beq_iff_eq.mpr hk])
    · rw [if_neg (by simp [hk])]
      exact eachL_tab fun z t hz => hP z t (by rw [List.lookup_cons, show (k == x) = false from beq_eq_false_iff_ne.mpr hk]; exact hz)
theorem plain_tab (T : List (Str × Str)) : ((tabD T).all fun q => KTD.plain q.2) = true := by
  unfold tabD
  rw [List.all_map]
  exact List.all_eq_true.mpr fun _ _ => rfl
theorem ix_tab {T : List (Str × Str)} {ad : Addr} (t : IsTab X.K X.mg x T ad) : IxR X (fun v y H Q => ∃ k z, v = .ref ad ∧ y = .str k ∧ T.lookup k = some z ∧ Q (.str z) H) := by
  intro value slice pins s σ H v y u w Q I rx ry h hs
  obtain ⟨k, z, rfl, rfl, hk, q⟩ := h
  cases rx
  obtain ⟨tk, rfl⟩ := ry
  refine KTD.item_textA ⟨t.tab s.heap I.kIn, fun _ _ e => e⟩ (plain_tab T) (by rw [in_tabD, hk]; rfl) ?_ hs
  refine eachL_tab fun z' t' hz => ?_
  rw [hk] at hz
  cases hz
  exact ⟨.str _, H, I.tok _, ⟨_, rfl⟩, q⟩
theorem unT {o : D → Res D} {r : R2} {y : V} (hr : ∀ (Hi H : Hp) (v : V) (d : D) (Q : VK), IsD X.K Hi v d → Same Hi H → (∃ d', o d = .ok d' ∧ (∀ w Hi' H', Ext Hi H Hi' H' → IsD X.K Hi' w d' → Q w H')) → r v y H Q)
    (he : ∀ d c, o d ≠ .err c) : ∀ σ H Q, tD X G (eUn o f) σ H Q → tOp r (tD X G f) (tC y) σ H Q := fun σ H Q q => by
  obtain ⟨ρ, Hi, R, ou⟩ := q
  refine out2 R ou fun v d Hi1 H1 e1 R1 r1 o1 => ?_
  cases z : o d with
  | no => rw [z] at o1; exact o1.elim
  | err c => exact absurd z (he d c)
  | ok d' => rw [z] at o1; exact hr Hi1 H1 v d Q r1 R1.s ⟨d', z, fun w Hi' H' e1 r1 => o1 Hi' H' e1 w r1⟩
theorem unNotT {T : List (Str × Str)} {ad : Addr} : ∀ σ H Q, tD X G (eUn (oTabNot T) f) σ H Q → tOp (fun v y H Q => ∃ k, v = .str k ∧ y = .ref ad ∧ Q (.bl (!(T.lookup k).isSome)) H) (tD X G f) (tC (.ref ad)) σ H Q :=
  unT (fun Hi H v d Q r s h => by
    obtain ⟨d', z, q⟩ := h
    unfold oTabNot at z
    split at z
    · cases z; exact ⟨_, r.strI, rfl, q _ Hi H (Ext.refl s) (.bl _)⟩
    · cases z) fun d c z => by unfold oTabNot at z; split at z <;> cases z
theorem tst_of {op : CmpOp} {o : D → Res D} {r : R2} {y : V} (hp : PT X (.Compare a [op] [b] pos) (tTest (tOp r (tD X G f) (tC y)))) (hu : ∀ σ H Q, tD X G (eUn o f) σ H Q → tOp r (tD X G f) (tC y) σ H Q) : PTd X G (.Compare a [op] [b] pos) (tVal (eUn o f)) :=
  PT.wk hp fun σ H Q q => by
    obtain ⟨ρ, Hi, R, ou⟩ := q
    refine hu σ H _ ⟨ρ, Hi, R, ou.bind.imp fun d Hi' H' e o v r => ?_⟩
    cases d with
    | bl c => rw [r.blI]; exact ⟨c, rfl, o.here e.s⟩
    | _ => exact o.elim
theorem tst_notT {T : List (Str × Str)} {ad : Addr} (t : IsTab X.K X.mg x T ad) (hg : Gl X x) (ha : PEd X G a f) (hm : behindInMarks .NotIn (.Name x p) = false) (hd : (x == ("__debug__" : Str)) = false := by decide) : PTd X G (.Compare a [.NotIn] [.Name x p] pos) (tVal (eUn (oTabNot T) f)) :=
  tst_of (pt_cmpR (op_notTab t) ha (pe_tab t hg hd) hm) unNotT
theorem pd_ixT {T : List (Str × Str)} {ad : Addr} (t : IsTab X.K X.mg x T ad) (hg : Gl X x) (hb : PEd X G b g) (hs : PlainIx b) (hd : (x == ("__debug__" : Str)) = false := by decide) : PEd X G (.Subscript (.Name x p) b pos) (eUn (oTabAt T) g) :=
  PE.wk (pe_ix (ix_tab t) (pe_tab t hg hd) hb hs) fun σ H Q q => by
    obtain ⟨ρ, Hi, R, ou⟩ := q
    refine out2 R ou fun v d Hi1 H1 e1 R1 r1 o1 => ?_
    cases d with
    | str k =>
      have o2 : Out G Hi1 H1 (tabO (T.lookup k)) _ := o1
      cases z : T.lookup k with
      | none => rw [z] at o2; exact o2.elim
      | some y => rw [z] at o2; exact ⟨k, y, rfl, r1.strI, z, o2.here R1.s _ (.str _)⟩
    | _ => exact o1.elim
end
end L3

namespace L3
open PySem PySem.Spec PyProof.Rows L2
unseal PEd PEf PTd PWd PAd PSd PSsd POd PGd PGsd PId PSx PSsx PTs PCd PCf
/-! ### max of a list, with or without a default -/
section
variable {prog : Program} {w : World} {A : Around} {R : Result → Shared → Prop} {I : Addr} {fp wr : List Addr} {n : Nat} {P : Nat → Value → Prop} {St : Nat → Heap → Prop} {kw : List (Str × Value)}
end
section
variable {X : Cx} {G : Gx} {a c : Expr} {pos p kp : Pos} {f g : Ev}
end
end L3

namespace L3
open PySem PySem.Spec PyProof.Rows L2
unseal PEd PEf PTd PWd PAd PSd PSsd POd PGd PGsd PId PSx PSsx PTs PCd PCf
section
variable {X : Cx} {G : Gx} {e : Expr} {pos : Pos} {f : Ev}
end
end L3

namespace L2
open PySem PySem.Spec PyProof.Rows
/-! ### lists of pairs as tables -/
section
variable {κ : Type} [DecidableEq κ]
end


/-- raw entries of a dict with tuple keys -/
noncomputable abbrev KT (H : Hp) : List (List Key × V) → List (List Key × Addr × Value) → Prop := Paired fun p q => p.1 = q.1 ∧ H q.2.1 = some (.tup (p.1.map kV)) ∧ RelV p.2 q.2.2
section
variable {P : Program} {w : World} {H : Hp} {h : Heap} {a : Addr}
end

section
variable {X : Cx} {pins : List (Addr × Obj)} {σ : St} {H : Hp} {s : Shared} {a : Addr} {y v : V} {u r : Value} {o : Option V} {A : Around} {E : Value → Shared → Prop}

end

section
variable {X : Cx} {pins : List (Addr × Obj)} {σ : St} {H : Hp} {s : Shared} {a : Addr} {kvs : List (Key × V)} {k : Key} {u : Value} {A : Around} {E : Value → Shared → Prop}
end


section
variable {X : Cx} {o i e value : Expr} {pos pos' tpos : Pos} {td ty tv : TE}
end


section
variable {X : Cx} {pos : Pos}
end

end L2

namespace L3
open PySem PySem.Spec PyProof.Rows L2
unseal PEd PEf PTd PWd PAd PSd PSsd POd PGd PGsd PId PSx PSsx PTs PCd PCf
section
variable {X : Cx} {G : Gx} {a b c e : Expr} {pos p2 p : Pos} {f g h : Ev} {fs : Fv} {x : Str}
end
end L3

namespace L3
open PySem PySem.Spec PyProof.Rows L2
/-! ### an iterator over a list (true) or a tuple (false) -/
noncomputable def itN (k : Bool) : String := if k then "list_iterator" else "tuple_iterator"
noncomputable def ItAt (k : Bool) (h : Heap) (it l : Addr) (i : Nat) : Prop := if k then h.IsListIter it l i else h.IsTupleIter it l i
noncomputable def SqAt (k : Bool) (h : Heap) (l : Addr) (xs : Array Value) : Prop := if k then h.IsList l xs else h.IsTuple l xs
theorem ItAt.get {k : Bool} {h : Heap} {it l : Addr} {i : Nat} (x : ItAt k h it l i) : ∃ o, h.get? it = some o ∧ o.cls = .type (itN k) ∧ o.data = .fields #[.ref l, .int i 0] := by
  cases k <;> (obtain ⟨o, a, b, c⟩ := x; exact ⟨o, a, b, c⟩)
theorem ItAt.mk {k : Bool} {h : Heap} {it l : Addr} {i : Nat} {o : Obj} (a : h.get? it = some o) (b : o.cls = .type (itN k)) (c : o.data = .fields #[.ref l, .int i 0]) : ItAt k h it l i := by
  cases k <;> exact ⟨o, a, b, c⟩
theorem ItAt.go {k : Bool} {h h' : Heap} {it l : Addr} {i : Nat} (x : ItAt k h it l i) (g : ∀ o, h.get? it = some o → h'.get? it = some o) : ItAt k h' it l i := by
  obtain ⟨o, a, b, c⟩ := x.get
  exact .mk (g o a) b c
theorem SqAt.go {k : Bool} {h h' : Heap} {l : Addr} {xs : Array Value} (x : SqAt k h l xs) (g : ∀ o, h.get? l = some o → h'.get? l = some o) : SqAt k h' l xs := by
  cases k <;> (obtain ⟨o, a, b⟩ := x; exact ⟨o, g o a, b⟩)
section
variable {prog : Program} {w : World} {A : Around} {E : Value → Shared → Prop} {s : Shared}
theorem iter_sq {k : Bool} {l : Addr} {xs : Array Value} {Q : Value → Shared → Prop} (hl : SqAt k s.heap l xs) (hQ : Q (.ref s.heap.objs.size) { s with heap := s.heap.push { cls := .type (itN k), data := .fields #[.ref l, .int 0 0] } }) :
    wpAny (model prog w) A (pyIter (.ref l)) Q E s := by
  cases k
  · exact wpAny_pyIter_tuple hl hQ
  · exact wpAny_pyIter_list hl hQ
/-- a tuple's iterator, asked for its next item: it tells one, or stops -/
theorem nxT {it t : Addr} {i : Nat} {items : Array Value} {Q : Value → Shared → Prop} (hh : A.handled = none ∨ (items[i]?).isSome = true) (x : s.heap.IsTupleIter it t i) (y : s.heap.IsTuple t items)
    (go : ∀ v, items[i]? = some v → ∀ h2, h2.IsTupleIter it t (i + 1) → Heap.SameBut it s.heap h2 → Q v { s with heap := h2 })
    (stop : items[i]? = none → ∀ h2 e, Heap.ExtBut it s.heap h2 → (∃ ob, h2.get? e = some ob ∧ ob.cls = .type "StopIteration") → E (.ref e) { s with heap := h2 }) : wpAny (model prog w) A (Builtin.SmallTypes.nextOf (.ref it)) Q E s := by
  obtain ⟨oi, ei, ci, di⟩ := id x
  obtain ⟨ot, et, _, nt, dt⟩ := y
  have nn : ¬ ((Value.ref t == Value.none) = true) := Bool.false_ne_true
  unfold Builtin.SmallTypes.nextOf
  refine wpAny_bind (wpAny_callSpecial?_slot (name := Str.ofString "__next__") x.typeIs F.slot_tuple_iterator_next (wpAny_call_entry F.slot_tuple_iterator_next x.typeIs F.entry_tuple_iterator_next (show wpAny _ _ (field _ 0 >>= _) _ _ s from wpAny_bind (wpAny_field ei di (x := .ref t) rfl ?_)) (F.args_tuple_iterator_next_1 _)))
  show wpAny _ _ (ite ((Value.ref t == Value.none) = true) _ _) _ _ s
  rw [if_neg nn]
  refine show wpAny _ _ (field _ 1 >>= _) _ _ s from wpAny_bind (wpAny_field ei di (x := .int i 0) rfl (show wpAny _ _ (seqItems? _ >>= _) _ _ s from wpAny_bind (wpAny_seqItems et dt ?_)))
  have fr : ∀ g : Array Value → Array Value, Heap.get? (s.heap.update it (Obj.mapFields g)) it = some (Obj.mapFields g oi) := fun g => Heap.get?_update_self _ ei (Obj.isFreed_of_fields (Obj.data_mapFields di g))
  cases q : items[i]? with
  | some v =>
    simp only [Int.toNat_natCast, q]
    refine wpAny_bind (wpAny_setField ei di (by simp) (wpAny_pure ⟨v, rfl, wpAny_pure (go v q _ ⟨_, fr _, (Obj.cls_mapFields ..).trans ci, ?_⟩ (Heap.SameBut.update ..))⟩))
    rw [Obj.data_mapFields di]
    simp [rawInt]
  | none =>
    have hh : A.handled = none := hh.elim id fun z => by rw [q] at z; cases z
    simp only [Int.toNat_natCast, q]
    refine wpAny_bind (wpAny_rule (wpAny_bind (wpAny_setField ei di (by simp) (show wpAny _ _ (newExc _ [] >>= _) _ _ _ from wpAny_bind ?_))))
    simp only [newExc, newTuple]
    refine wpAny_bind (wpAny_newObj_type (wpAny_bind (m := firstArgMember _ _) (wpAny_of_eq (a := Value.none) (by first | rfl | (simp only [firstArgMember]; rfl)) (wpAny_newObj_type ?_ (by size_fits)))) (by size_fits))
    simp only [raiseNew]
    refine wpAny_bind (wpAny_handled ?_)
    rw [show A.in1.handled = none from hh]
    exact wpAny_bind (wpAny_pure (wpAny_throw (stop q _ _ (((Heap.SameBut.update ..).extBut.push _).push _) ⟨_, Heap.get?_push_size _ rfl, rfl⟩)))
theorem nx_item {k : Bool} {it t : Addr} {i : Nat} {items : Array Value} {x : Value} {Q : Value → Shared → Prop} (hit : ItAt k s.heap it t i) (ht : SqAt k s.heap t items) (hx : items[i]? = some x)
    (hQ : ∀ h', ItAt k h' it t (i + 1) → Heap.SameBut it s.heap h' → Q x { s with heap := h' }) : wpAny (model prog w) A (Builtin.SmallTypes.nextOf (.ref it)) Q E s := by
  cases k
  · exact nxT (.inr (by rw [hx]; rfl)) hit ht (fun v q h2 g1 g2 => by rw [hx] at q; cases q; exact hQ h2 g1 g2) fun q => by rw [hx] at q; cases q
  · exact wpAny_nextOf_list_item hit ht hx hQ
theorem nx_end {k : Bool} {it t : Addr} {i : Nat} {items : Array Value} {Q : Value → Shared → Prop} (hh : A.handled = none) (hit : ItAt k s.heap it t i) (ht : SqAt k s.heap t items) (hx : items[i]? = none)
    (hE : ∀ h' e, Heap.ExtBut it s.heap h' → (∃ o, h'.get? e = some o ∧ o.cls = .type "StopIteration") → E (.ref e) { s with heap := h' }) : wpAny (model prog w) A (Builtin.SmallTypes.nextOf (.ref it)) Q E s := by
  cases k
  · exact nxT (.inl hh) hit ht (fun v q => by rw [hx] at q; cases q) fun _ => hE
  · exact wpAny_nextOf_list_end hh hit ht hx hE
/-! ### zip of two, each a list or a tuple: its five objects lie at n .. n + 4 -/
noncomputable def ZipG (f0 : Value) (k1 k2 : Bool) (l1 l2 n : Addr) (j1 j2 : Nat) (h : Heap) : Prop :=
  IsZip h (n + 4) (n + 2) (n + 3) f0 ∧ IsPair h (n + 2) (.ref n) (.ref (n + 1)) ∧ (∃ a b, IsPair h (n + 3) a b) ∧ ItAt k1 h n l1 j1 ∧ ItAt k2 h (n + 1) l2 j2
/-- nothing but the five is touched -/
noncomputable def KeepZ (n : Addr) (h h2 : Heap) : Prop := ∀ c o, c ≠ n + 4 → c ≠ n + 3 → c ≠ n → c ≠ n + 1 → h.get? c = some o → h2.get? c = some o
theorem KeepZ.then {n : Addr} {h h1 h2 : Heap} (a : KeepZ n h h1) (b : KeepZ n h1 h2) : KeepZ n h h2 := fun c o c1 c2 c3 c4 e => b c o c1 c2 c3 c4 (a c o c1 c2 c3 c4 e)
theorem KeepZ.eb {n a : Addr} {h h2 : Heap} (k : Heap.ExtBut a h h2) (m : a = n + 4 ∨ a = n + 3 ∨ a = n ∨ a = n + 1) : KeepZ n h h2 := fun c o c1 c2 c3 c4 e => k c o (fun z => by subst z; rcases m with m | m | m | m <;> contradiction) e
theorem KeepZ.sq {k : Bool} {n l : Addr} {h h2 : Heap} {xs : Array Value} (a : KeepZ n h h2) (hl : l < n) (x : SqAt k h l xs) : SqAt k h2 l xs :=
  x.go fun o e => a l o (Nat.ne_of_lt (Nat.lt_add_right 4 hl)) (Nat.ne_of_lt (Nat.lt_add_right 3 hl)) (Nat.ne_of_lt hl) (Nat.ne_of_lt (Nat.lt_succ_of_lt hl)) e
theorem ne43 (n : Addr) : n + 3 ≠ n + 4 ∧ n + 2 ≠ n + 4 ∧ n ≠ n + 4 ∧ n + 1 ≠ n + 4 ∧ n + 2 ≠ n + 3 ∧ n ≠ n + 3 ∧ n + 1 ≠ n + 3 ∧ n + 2 ≠ n ∧ n + 1 ≠ n ∧ n + 2 ≠ n + 1 := by
  refine ⟨?_, ?_, ?_, ?_, ?_, ?_, ?_, ?_, ?_, ?_⟩ <;> (intro z; have z' : (_ : Nat) = _ := z; omega)
theorem ZipG.fld {f0 : Value} {k1 k2 : Bool} {l1 l2 n : Addr} {j1 j2 : Nat} {h h2 : Heap} (g : ZipG f0 k1 k2 l1 l2 n j1 j2 h) {f1 : Value} (z : IsZip h2 (n + 4) (n + 2) (n + 3) f1) (s : Heap.ExtBut (n + 4) h h2) : ZipG f1 k1 k2 l1 l2 n j1 j2 h2 := by
  obtain ⟨_, g2, ⟨a, b, g3⟩, g4, g5⟩ := g
  obtain ⟨e1, e2, e3, e4, _⟩ := ne43 n
  exact ⟨z, s _ _ e2 g2, ⟨a, b, s _ _ e1 g3⟩, g4.go fun o e => s _ o e3 e, g5.go fun o e => s _ o e4 e⟩
theorem ZipG.it1 {f0 : Value} {k1 k2 : Bool} {l1 l2 n : Addr} {j1 j2 m : Nat} {h h2 : Heap} (g : ZipG f0 k1 k2 l1 l2 n j1 j2 h) (z : ItAt k1 h2 n l1 m) (s : Heap.ExtBut n h h2) : ZipG f0 k1 k2 l1 l2 n m j2 h2 := by
  obtain ⟨g1, g2, ⟨a, b, g3⟩, _, g5⟩ := g
  obtain ⟨e1, e2, e3, e4, e5, e6, e7, e8, e9, _⟩ := ne43 n
  exact ⟨s _ _ e3.symm g1, s _ _ e8 g2, ⟨a, b, s _ _ e6.symm g3⟩, z, g5.go fun o e => s _ o e9 e⟩
theorem ZipG.it2 {f0 : Value} {k1 k2 : Bool} {l1 l2 n : Addr} {j1 j2 m : Nat} {h h2 : Heap} (g : ZipG f0 k1 k2 l1 l2 n j1 j2 h) (z : ItAt k2 h2 (n + 1) l2 m) (s : Heap.ExtBut (n + 1) h h2) : ZipG f0 k1 k2 l1 l2 n j1 m h2 := by
  obtain ⟨g1, g2, ⟨a, b, g3⟩, g4, _⟩ := g
  obtain ⟨e1, e2, e3, e4, e5, e6, e7, e8, e9, e10⟩ := ne43 n
  exact ⟨s _ _ e4.symm g1, s _ _ e10 g2, ⟨a, b, s _ _ e7.symm g3⟩, g4.go fun o e => s _ o e9.symm e, z⟩
theorem ZipG.out {f0 a b : Value} {k1 k2 : Bool} {l1 l2 n : Addr} {j1 j2 : Nat} {h h2 : Heap} (g : ZipG f0 k1 k2 l1 l2 n j1 j2 h) (z : IsPair h2 (n + 3) a b) (s : Heap.ExtBut (n + 3) h h2) : ZipG f0 k1 k2 l1 l2 n j1 j2 h2 := by
  obtain ⟨g1, g2, _, g4, g5⟩ := g
  obtain ⟨e1, e2, e3, e4, e5, e6, e7, _⟩ := ne43 n
  exact ⟨s _ _ e1.symm g1, s _ _ e5 g2, ⟨a, b, z⟩, g4.go fun o e => s _ o e6 e, g5.go fun o e => s _ o e7 e⟩
theorem zipN {k1 k2 : Bool} {n l1 l2 : Addr} {j : Nat} {xs ys : Array Value} {Q : PySem.Fin → Shared → Prop} (hh : A.handled = none) (b1 : l1 < n) (b2 : l2 < n) (g : ZipG .none k1 k2 l1 l2 n j j s.heap) (d1 : SqAt k1 s.heap l1 xs) (d2 : SqAt k2 s.heap l2 ys)
    (go : ∀ x y, xs[j]? = some x → ys[j]? = some y → ∀ h2, ZipG (rawInt s.heap.objs.size) k1 k2 l1 l2 n (j + 1) (j + 1) h2 → IsPair h2 s.heap.objs.size x y → KeepZ n s.heap h2 → Q (.done (.ret (.ref s.heap.objs.size))) { s with heap := h2 })
    (stop : xs[j]? = none ∨ ys[j]? = none → ∀ h2 e, KeepZ n s.heap h2 → (∃ o, h2.get? e = some o ∧ o.cls = .type "StopIteration") → E (.ref e) { s with heap := h2 }) :
    wpAny (model prog w) A (Builtin.«zip.__next__» ⟨[.ref (n + 4)], []⟩) Q E s := by
  have stopZ : ∀ {h1 : Heap} {e : Addr} {v : Value} {k : Nat} {R : Unit → Shared → Prop}, (xs[j]? = none ∨ ys[j]? = none) → KeepZ n s.heap h1 → IsZip h1 (n + 4) (n + 2) (n + 3) .ellipsis → (∃ o, h1.get? e = some o ∧ o.cls = .type "StopIteration") → k < 5 →
      (∀ h3, KeepZ n s.heap h3 → (∃ o, h3.get? e = some o ∧ o.cls = .type "StopIteration") → R () { s with heap := h3 }) → wpAny (model prog w) A (setField (.ref (n + 4)) k v) R E { s with heap := h1 } := by
    intro h1 e v k R q kz z he hk fin
    obtain ⟨oe, e1, e2⟩ := he
    have nz : e ≠ n + 4 := fun y => by subst y; rw [z] at e1; cases e1; simp at e2
    exact wpAny_setField_rec z (by simpa using hk) fun h3 _ s3 => fin h3 (kz.then (.eb s3.extBut (.inl rfl))) ⟨oe, s3.extBut _ _ nz e1, e2⟩
  obtain ⟨z0, t0, ⟨a, b, p0⟩, _⟩ := id g
  refine show wpAny _ _ (field _ 2 >>= _) _ _ s from wpAny_bind (wpAny_field z0 rfl (x := .bool false) rfl (show wpAny _ _ (field _ 3 >>= _) _ _ s from wpAny_bind (wpAny_field z0 rfl (x := .ref (n + 2)) rfl (wpAny_bind (wpAny_seqItems t0 rfl (wpAny_bind ?_))))))
  unfold Builtin.SmallTypes.ownedTupleIsFree
  refine wpAny_bind (wpAny_field z0 rfl (x := .none) rfl (wpAny_pure ?_))
  simp only [if_true]
  refine wpAny_bind (wpAny_rule (wpAny_bind (wpAny_field z0 rfl (x := .ref (n + 3)) rfl (wpAny_bind (wpAny_setField_rec z0 (by simp) fun h1 z1 s1 => wpAny_bind ?_)))))
  have g1 : ZipG .ellipsis k1 k2 l1 l2 n j j h1 := g.fld z1 s1.extBut
  have k1' : KeepZ n s.heap h1 := .eb s1.extBut (.inl rfl)
  simp only [List.zipIdx_cons, List.zipIdx_nil, List.forIn_cons, List.forIn_nil]
  refine wpAny_bind (wpAny_bind (wpAny_onRaise (show wpAny _ _ (Builtin.SmallTypes.nextOf _ >>= _) _ _ _ from wpAny_bind ?_)))
  cases q1 : xs[j]? with
  | none =>
    refine nx_end (s := { s with heap := h1 }) hh g1.2.2.2.1 (k1'.sq b1 d1) q1 fun h2 e x2 he => stopZ (.inl q1) (k1'.then (.eb x2 (.inr (.inr (.inl rfl))))) (x2 _ _ (ne43 n).2.2.1.symm g1.1) he (by decide) fun h3 => stop (.inl q1) h3 e
  | some x =>
    refine nx_item (s := { s with heap := h1 }) g1.2.2.2.1 (k1'.sq b1 d1) q1 fun h2 i2 s2 => wpAny_pure ?_
    have g2 := g1.it1 i2 s2.extBut
    have k2' := k1'.then (.eb s2.extBut (.inr (.inr (.inl rfl))))
    have p2 : IsPair h2 (n + 3) a b := s2.extBut _ _ (ne43 n).2.2.2.2.2.1.symm (s1.extBut _ _ (ne43 n).1 p0)
    refine wpAny_bind (wpAny_seqItems (s := { s with heap := h2 }) p2 rfl (wpAny_bind (wpAny_updateSeq_pair p2 fun h3 p3 s3 => wpAny_bind (wpAny_letGo (wpAny_pure ?_)))))
    have g3 := g2.out p3 s3.extBut
    have k3' := k2'.then (.eb s3.extBut (.inr (.inl rfl)))
    refine wpAny_bind (wpAny_bind (wpAny_onRaise (show wpAny _ _ (Builtin.SmallTypes.nextOf _ >>= _) _ _ _ from wpAny_bind ?_)))
    cases q2 : ys[j]? with
    | none =>
      refine nx_end (s := { s with heap := h3 }) hh g3.2.2.2.2 (k3'.sq b2 d2) q2 fun h4 e x4 he => stopZ (.inr q2) (k3'.then (.eb x4 (.inr (.inr (.inr rfl))))) (x4 _ _ (ne43 n).2.2.2.1.symm g3.1) he (by decide) fun h5 => stop (.inr q2) h5 e
    | some y =>
      refine nx_item (s := { s with heap := h3 }) g3.2.2.2.2 (k3'.sq b2 d2) q2 fun h4 i4 s4 => wpAny_pure ?_
      have g4 := g3.it2 i4 s4.extBut
      have p4 : IsPair h4 (n + 3) x b := s4.extBut _ _ (ne43 n).2.2.2.2.2.2.1.symm p3
      refine wpAny_bind (wpAny_seqItems (s := { s with heap := h4 }) p4 rfl (wpAny_bind (wpAny_updateSeq_pair p4 fun h5 p5 s5 => wpAny_bind (wpAny_letGo (wpAny_pure (wpAny_pure ?_))))))
      have p5 : IsPair h5 (n + 3) x y := p5
      have g5 := g4.out p5 s5.extBut
      have k5' := (k3'.then (.eb s4.extBut (.inr (.inr (.inr rfl))))).then (.eb s5.extBut (.inr (.inl rfl)))
      have sz : h5.objs.size = s.heap.objs.size := s5.1.trans (s4.1.trans (s3.1.trans (s2.1.trans s1.1)))
      refine wpAny_bind (wpAny_seqItems (s := { s with heap := h5 }) p5 rfl (wpAny_bind (wpAny_newTuple (show wpAny _ _ (Builtin.SmallTypes.ownedTupleHandOut _ (.ref h5.objs.size) >>= _) _ _ _ from wpAny_bind ?_))))
      unfold Builtin.SmallTypes.ownedTupleHandOut
      refine wpAny_bind (wpAny_setField_rec (Heap.get?_push_of_some _ g5.1) (by simp) fun h7 z7 s7 => wpAny_setField_rec z7 (by simp) fun h8 z8 s8 => wpAny_pure ?_)
      have nz : h5.objs.size ≠ n + 4 := Nat.ne_of_gt (Heap.lt_size g5.1)
      have x8 : Heap.ExtBut (n + 4) h5 h8 := fun c o c1 e => s8.extBut _ _ c1 (s7.extBut _ _ c1 (Heap.get?_push_of_some _ e))
      have g8 : ZipG (rawInt h5.objs.size) k1 k2 l1 l2 n (j + 1) (j + 1) h8 := g5.fld z8 x8
      have t8 : IsPair h8 h5.objs.size x y := s8.extBut _ _ nz (s7.extBut _ _ nz (Heap.get?_push_size _ rfl))
      rw [sz] at g8 t8
      show Q (.done (.ret (.ref h5.objs.size))) _
      rw [sz]
      exact go x y q1 q2 h8 g8 t8 (k5'.then (.eb x8 (.inl rfl)))
theorem zipP {k1 k2 : Bool} {n l1 l2 : Addr} {j : Nat} {xs ys : Array Value} {Q : Option Value → Shared → Prop} (hh : A.handled = none) (b1 : l1 < n) (b2 : l2 < n) (g : ZipG .none k1 k2 l1 l2 n j j s.heap) (d1 : SqAt k1 s.heap l1 xs) (d2 : SqAt k2 s.heap l2 ys)
    (go : ∀ x y, xs[j]? = some x → ys[j]? = some y → ∀ h2, ZipG (rawInt s.heap.objs.size) k1 k2 l1 l2 n (j + 1) (j + 1) h2 → IsPair h2 s.heap.objs.size x y → KeepZ n s.heap h2 → Q (some (.ref s.heap.objs.size)) { s with heap := h2 })
    (stop : xs[j]? = none ∨ ys[j]? = none → ∀ h2, KeepZ n s.heap h2 → Q none { s with heap := h2 }) : wpAny (model prog w) A (pyNext (.ref (n + 4))) Q E s := by
  have ty : s.TypeIs (.ref (n + 4)) "zip" := ⟨_, g.1, rfl⟩
  unfold pyNext
  refine wpAny_bind (wpAny_attempt (wpAny_callSpecial?_slot (name := Str.ofString "__next__") ty F.slot_zip_next (wpAny_call_entry F.slot_zip_next ty F.entry_zip_next
    (zipN hh b1 b2 g d1 d2 (fun x y q1 q2 h2 a1 a2 a3 => ⟨_, rfl, wpAny_pure (go x y q1 q2 h2 a1 a2 a3)⟩) fun q h2 e k he => ?_) (F.args_zip_next_1 _))))
  obtain ⟨o, eo, co⟩ := he
  exact wpAny_bind (wpAny_isInstance (T := "StopIteration") (b := true) ⟨o, eo, co⟩ isSubtype_stop (wpAny_pure (stop q h2 k)))
end
/-! ### the call -/
noncomputable abbrev zO (k : Bool) (l : Addr) : Obj := { cls := .type (itN k), data := .fields #[.ref l, .int 0 0] }
noncomputable abbrev zH2 (k1 k2 : Bool) (h : Heap) (l1 l2 : Addr) : Heap := (h.push (zO k1 l1)).push (zO k2 l2)
noncomputable abbrev zH3 (k1 k2 : Bool) (h : Heap) (l1 l2 : Addr) : Heap := (zH2 k1 k2 h l1 l2).push { cls := .type "tuple", data := .seq #[.ref h.objs.size, .ref (h.push (zO k1 l1)).objs.size] }
noncomputable abbrev zH4 (k1 k2 : Bool) (h : Heap) (l1 l2 : Addr) : Heap := (zH3 k1 k2 h l1 l2).push { cls := .type "tuple", data := .seq #[.none, .none] }
noncomputable abbrev zH5 (k1 k2 : Bool) (h : Heap) (l1 l2 : Addr) : Heap := (zH4 k1 k2 h l1 l2).push { cls := .type "zip", data := .fields #[.none, .bool false, .bool false, .ref (zH2 k1 k2 h l1 l2).objs.size, .ref (zH3 k1 k2 h l1 l2).objs.size] }
theorem zip_made (k1 k2 : Bool) (l1 l2 : Addr) (xs ys : Array Value) : Meets (Builtin.«zip.__new__» ⟨[.type "zip", .ref l1, .ref l2], []⟩) (fun _ R s => SqAt k1 s.heap l1 xs ∧ SqAt k2 s.heap l2 ys ∧
    R (.ok (.ret (.ref (zH4 k1 k2 s.heap l1 l2).objs.size))) { s with heap := zH5 k1 k2 s.heap l1 l2 }) :=
  .of_wp fun prog w A R s h => by
    obtain ⟨hp, g, d, tk, os⟩ := s
    obtain ⟨hl1, hl2, h⟩ := h
    have hsub := sub_zip
    have d1 : SqAt k1 (Shared.heap ⟨hp, g, d, tk, os⟩) l1 xs := hl1
    have d2 : SqAt k2 (Shared.heap ⟨hp.push { cls := .type (itN k1), data := .fields #[.ref l1, .int 0 0] }, g, d, tk, os⟩) l2 ys := hl2.go fun o e => Heap.get?_push_of_some _ e
    wp_walk using iter_sq d1, iter_sq d2
    exact ⟨_, rfl, h⟩
section
variable {prog : Program} {w : World} {A : Around} {E : Value → Shared → Prop} {s : Shared}
theorem zip_call {k1 k2 : Bool} {l1 l2 : Addr} {xs ys : Array Value} {Q : Value → Shared → Prop} (d1 : SqAt k1 s.heap l1 xs) (d2 : SqAt k2 s.heap l2 ys)
    (h : ∀ h2, ZipG .none k1 k2 l1 l2 s.heap.objs.size 0 0 h2 → (∀ c o, s.heap.get? c = some o → h2.get? c = some o) → Q (.ref (s.heap.objs.size + 4)) { s with heap := h2 }) : wpAny (model prog w) A (call (.type "zip") [.ref l1, .ref l2]) Q E s := by
  refine callType_new F.called_zip (by decide) (F.typeCall_zip_2 _ _) (F.newCall_zip_2 _ _) (fun obj => F.args_object_init_3 obj _ _) F.entry_zip_new (zip_made k1 k2 l1 l2 xs ys) ⟨d1, d2, ?_⟩
  have up : ∀ {h : Heap} {a : Addr} {o ob : Obj}, h.get? a = some o → (h.push ob).get? a = some o := fun e => Heap.get?_push_of_some _ e
  have m1 : (s.heap.push (zO k1 l1)).objs.size = s.heap.objs.size + 1 := Heap.size_push ..
  have m2 : (zH2 k1 k2 s.heap l1 l2).objs.size = s.heap.objs.size + 2 := (Heap.size_push ..).trans (congrArg (· + 1) m1)
  have m3 : (zH3 k1 k2 s.heap l1 l2).objs.size = s.heap.objs.size + 3 := (Heap.size_push ..).trans (congrArg (· + 1) m2)
  have m4 : (zH4 k1 k2 s.heap l1 l2).objs.size = s.heap.objs.size + 4 := (Heap.size_push ..).trans (congrArg (· + 1) m3)
  have r0 : (zH5 k1 k2 s.heap l1 l2).get? s.heap.objs.size = some (zO k1 l1) := up (up (up (up (Heap.get?_push_size _ rfl))))
  have r1 : (zH5 k1 k2 s.heap l1 l2).get? (s.heap.push (zO k1 l1)).objs.size = some (zO k2 l2) := up (up (up (Heap.get?_push_size _ rfl)))
  have r2 : (zH5 k1 k2 s.heap l1 l2).get? (zH2 k1 k2 s.heap l1 l2).objs.size = some _ := up (up (Heap.get?_push_size _ rfl))
  have r3 : (zH5 k1 k2 s.heap l1 l2).get? (zH3 k1 k2 s.heap l1 l2).objs.size = some _ := up (Heap.get?_push_size _ rfl)
  have r4 : (zH5 k1 k2 s.heap l1 l2).get? (zH4 k1 k2 s.heap l1 l2).objs.size = some _ := Heap.get?_push_size _ rfl
  rw [m1] at r1
  rw [m1, m2] at r2
  rw [m3] at r3
  rw [m2, m3, m4] at r4
  show _ ∧ _
  rw [m4]
  exact ⟨⟨_, r4, rfl⟩, h _ ⟨r4, r2, ⟨_, _, r3⟩, .mk r0 rfl rfl, .mk r1 rfl rfl⟩ fun c o x => up (up (up (up (up x))))⟩
end
end L3

namespace L3
open PySem PySem.Spec PyProof.Rows L2
section
variable {X : Cx} {pins : List (Addr × Obj)} {σ : St} {H : Hp} {s : Shared} {h' : Heap} {fp : List Addr}
/-- the iterator's own objects have turned, and a new tuple is laid -/
theorem turnedN {t' : Nat} {p : Addr} {xs : List V} {us : List Value} (I : Inv X pins σ H s) (hf : ∀ b ∈ fp, FpOk X pins H b) (k : ∀ b o, b ∉ fp → s.heap.get? b = some o → h'.get? b = some o)
    (hp : s.heap.objs.size ≤ p) (ht : IsTup h' p us.toArray) (hv : Vals xs us) (hz : xs.length ≤ sizeLine) : Inv X pins σ (upd H p (.tup xs)) { s with heap := h', toks := t' } := by
  have hn : H p = none := I.hok.fresh hp
  have nf : ∀ b u, H b = some u → b ∉ fp := fun b u e z => by rw [(hf b z).1] at e; cases e
  have np : ∀ b u, H b = some u → upd H p (.tup xs) b = some u := fun b u e => by rw [upd_ne (ne_of_none e hn)]; exact e
  refine I.step (g' := s.gens) (d' := s.drawn) (ch := fp) (fun b hb => ⟨(hf b hb).2.2.2.1, (hf b hb).2.1, (hf b hb).2.2.2.2.1, (hf b hb).2.2.2.2.2⟩) (fun b o _ _ hc e _ => k b o hc e) (fun b o _ _ hc e _ => ⟨o.slots, k b o hc e⟩) (fun b o _ e n => ?_)
    (fun b o hc e => ⟨o, k b o hc e⟩) (fun b xs e => np _ _ e) (fun b o u e => np _ _ e) (fun b ps e => ⟨#[], by rw [np _ _ e]; simp⟩) (fun m hm => ?_) (fun b u e => ?_) I.bare
  · rw [upd_ne (Nat.ne_of_lt (Nat.lt_of_lt_of_le (Heap.lt_size e) hp))]; exact n
  · obtain ⟨o, es, ep, ho, r⟩ := hm
    exact ⟨o, es, ep, k _ o (fun z => (hf _ z).2.1 rfl) ho, r⟩
  · by_cases hb : b = p
    · subst hb
      rw [upd_same] at e; cases e
      exact ⟨hz, us, hv, ht⟩
    · rw [upd_ne hb] at e
      refine (I.hok b u e).stay (fun c v hc q => k c v ?_ q) (fun _ q => np _ _ q) fun _ _ q => np _ _ q
      rcases hc with z | z
      · rw [z]; exact nf b u e
      · exact nf c _ z
theorem turnedL {t' : Nat} (I : Inv X pins σ H s) (hf : ∀ b ∈ fp, FpOk X pins H b) (k : ∀ b o, b ∉ fp → s.heap.get? b = some o → h'.get? b = some o) : Inv X pins σ H { s with heap := h', toks := t' } := by
  have nf : ∀ b u, H b = some u → b ∉ fp := fun b u e z => by rw [(hf b z).1] at e; cases e
  refine I.step (g' := s.gens) (d' := s.drawn) (ch := fp) (fun b hb => ⟨(hf b hb).2.2.2.1, (hf b hb).2.1, (hf b hb).2.2.2.2.1, (hf b hb).2.2.2.2.2⟩) (fun b o _ _ hc e _ => k b o hc e) (fun b o _ _ hc e _ => ⟨o.slots, k b o hc e⟩) (fun b o _ e n => n)
    (fun b o hc e => ⟨o, k b o hc e⟩) (fun b xs e => e) (fun b o u e => e) (fun b ps e => ⟨#[], by rw [e]; simp⟩) (fun m hm => ?_) (fun b u e => ?_) I.bare
  · obtain ⟨o, es, ep, ho, r⟩ := hm
    exact ⟨o, es, ep, k _ o (fun z => (hf _ z).2.1 rfl) ho, r⟩
  · refine (I.hok b u e).stay (fun c v hc q => k c v ?_ q) (fun _ q => q) fun _ _ q => q
    rcases hc with z | z
    · rw [z]; exact nf b u e
    · exact nf c _ z
end
/-- a list (true) or a tuple (false) -/
noncomputable def SqK (k : Bool) (K : PySem.W.Frag) (H : Hp) (a : Addr) (xs : List V) : Prop := if k then SqL K H a xs else SqT K H a xs
theorem sqK_mono {k : Bool} {K : PySem.W.Frag} {H H' : Hp} (e : Same H H') {a : Addr} {xs : List V} (h : SqK k K H a xs) : SqK k K H' a xs := by
  cases k
  · exact sqT_mono e h
  · exact sqL_mono e h
section
variable {X : Cx} {pins : List (Addr × Obj)} {σ : St} {H : Hp} {s : Shared} {k : Bool} {a : Addr} {xs ys : List V}
theorem sqI (I : Inv X pins σ H s) (h : SqK k X.K H a xs) : ∃ its : List Value, Vals xs its ∧ SqAt k s.heap a its.toArray ∧ xs.length ≤ sizeLine := by
  cases k
  · obtain ⟨its, rv, p, hz⟩ := I.tuple h
    exact ⟨its, rv, p, hz⟩
  · obtain ⟨its, rv, p, hz⟩ := I.list h
    exact ⟨its, rv, p.isList, hz⟩
theorem sqI_inj (I : Inv X pins σ H s) (h : SqK k X.K H a xs) (h' : SqK k X.K H a ys) : xs = ys := by
  cases k
  · exact I.tuple_inj h h'
  · exact I.list_inj h h'
theorem SqAt.lt {h : Heap} {l : Addr} {xs : Array Value} (x : SqAt k h l xs) : l < h.objs.size := by
  cases k <;> (obtain ⟨o, e, _⟩ := x; exact Heap.lt_size e)
end
/-- pairs of the items of two -/
noncomputable def Itz (K : PySem.W.Frag) (k1 k2 : Bool) (a1 a2 : Addr) : It :=
  ⟨fun i H => ∃ xs ys x y, SqK k1 K H a1 xs ∧ SqK k2 K H a2 ys ∧ xs[i]? = some x ∧ ys[i]? = some y,
   fun i H v H' => ∃ p x y, v = .ref p ∧ H p = none ∧ H' = upd H p (.tup [x, y]) ∧ (∀ xs, SqK k1 K H a1 xs → xs[i]? = some x) ∧ ∀ ys, SqK k2 K H a2 ys → ys[i]? = some y,
   fun i H => ∃ xs ys, SqK k1 K H a1 xs ∧ SqK k2 K H a2 ys ∧ (xs.length ≤ i ∨ ys.length ≤ i)⟩
noncomputable def ZipS (k1 k2 : Bool) (a1 a2 n : Addr) (i : Nat) (h : Heap) : Prop := ZipG .none k1 k2 a1 a2 n i i h
theorem no_cell {h : Heap} {b : Addr} {o : Obj} {d : Data} (e : h.get? b = some o) (hd : o.data = d) (nd : ∀ v, d ≠ .cell v) : ∃ o, h.get? b = some o ∧ ∀ v, o.data ≠ .cell v := ⟨o, e, fun v z => nd v (hd.symm.trans z)⟩
theorem turn_zip {P : Program} {w : World} {K : PySem.W.Frag} {elts : List Expr} {x1 : Nat} {tp : Pos} (k1 k2 : Bool) (a1 a2 n : Addr) (l1 : a1 < n) (l2 : a2 < n) :
    Turn P w K (.Tuple elts x1 tp) (Itz K k1 k2 a1 a2) [n + 4, n + 2, n + 3, n, n + 1] (n + 4) (ZipS k1 k2 a1 a2 n) where
  mem := by simp
  obj := fun i h st b hb => by
    obtain ⟨t1, t2, ⟨a, b', t3⟩, t4, t5⟩ := st
    obtain ⟨o4, e4, _, d4⟩ := t4.get
    obtain ⟨o5, e5, _, d5⟩ := t5.get
    simp only [List.mem_cons, List.not_mem_nil, or_false] at hb
    rcases hb with rfl | rfl | rfl | rfl | rfl
    · exact no_cell t1 rfl fun v z => by cases z
    · exact no_cell t2 rfl fun v z => by cases z
    · exact no_cell t3 rfl fun v z => by cases z
    · exact no_cell e4 d4 fun v z => by cases z
    · exact no_cell e5 d5 fun v z => by cases z
  keep := fun i h h' st k => by
    obtain ⟨t1, t2, ⟨a, b', t3⟩, t4, t5⟩ := st
    exact ⟨k _ (by simp) _ t1, k _ (by simp) _ t2, ⟨a, b', k _ (by simp) _ t3⟩, t4.go fun o e => k _ (by simp) o e, t5.go fun o e => k _ (by simp) o e⟩
  item := by
    intro X hP hw hK hc i pins s σ H E I hf st hg
    subst hP hw hK
    obtain ⟨xs, ys, x, y, q1, q2, hx, hy⟩ := hg
    obtain ⟨us, r1, s1, z1⟩ := sqI I q1
    obtain ⟨ws, r2, s2, z2⟩ := sqI I q2
    obtain ⟨u, hu, ru⟩ := r1.get hx
    obtain ⟨v, hv, rv⟩ := r2.get hy
    have hu' : us.toArray[i]? = some u := by simpa using hu
    have hv' : ws.toArray[i]? = some v := by simpa using hv
    have st' := st
    obtain ⟨t1, t2, ⟨a, b, t3⟩, t4, t5⟩ := st
    refine zipP (I.ok.hd hc) l1 l2 st' s1 s2 (fun x' y' f1 f2 h' g' p' kz => ?_) (fun q => ?_)
    rotate_left
    · rw [hu', hv'] at q; rcases q with q | q <;> cases q
    rw [hu'] at f1; cases f1
    rw [hv'] at f2; cases f2
    refine ⟨_, rfl, wpAny_letOwnedTupleGo_zip (s := { s with heap := h' }) g'.1 fun h'' c1 c2 => ?_⟩
    have zl : s.heap.objs.size ≠ n + 4 := Nat.ne_of_gt (Heap.lt_size t1)
    have np : H s.heap.objs.size = none := I.hok.fresh (Nat.le_refl _)
    have I1 : Inv X pins σ (upd H s.heap.objs.size (.tup [x, y])) { s with heap := h'', toks := s.toks } := turnedN (us := [u, v]) I hf (fun b o hb e => by
        simp only [List.mem_cons, List.not_mem_nil, or_false, not_or] at hb
        exact c2.extBut b o hb.1 (kz b o hb.1 hb.2.2.1 hb.2.2.2.1 hb.2.2.2.2 e)) (Nat.le_refl _) ⟨_, c2.extBut _ _ zl p', rfl, _, rfl⟩ (.cons ru (.cons rv .nil)) (show 2 ≤ sizeLine by decide)
    refine ⟨.ref s.heap.objs.size, _, I1, rfl, ⟨_, x, y, rfl, np, rfl, fun zs hz => by rw [sqI_inj I hz q1]; exact hx, fun zs hz => by rw [sqI_inj I hz q2]; exact hy⟩, g'.fld c1 c2.extBut, fun b hb => ?_⟩
    · obtain ⟨o, e, _⟩ : ∃ o, s.heap.get? b = some o ∧ True := by
        obtain ⟨o4, e4, _⟩ := t4.get
        obtain ⟨o5, e5, _⟩ := t5.get
        simp only [List.mem_cons, List.not_mem_nil, or_false] at hb
        rcases hb with rfl | rfl | rfl | rfl | rfl
        · exact ⟨_, t1, trivial⟩
        · exact ⟨_, t2, trivial⟩
        · exact ⟨_, t3, trivial⟩
        · exact ⟨_, e4, trivial⟩
        · exact ⟨_, e5, trivial⟩
      rw [upd_ne (Nat.ne_of_lt (Heap.lt_size e))]
      exact (hf b hb).1
  done := by
    intro X hP hw hK hc i pins s σ H E I hf st hg
    subst hP hw hK
    obtain ⟨xs, ys, q1, q2, hl⟩ := hg
    obtain ⟨us, r1, s1, z1⟩ := sqI I q1
    obtain ⟨ws, r2, s2, z2⟩ := sqI I q2
    have st' := st
    obtain ⟨t1, t2, ⟨a, b, t3⟩, t4, t5⟩ := st
    have e1 := r1.length
    have e2 := r2.length
    refine zipP (I.ok.hd hc) l1 l2 st' s1 s2 (fun x y f1 f2 => ?_) fun _ h' b7 => ⟨rfl, turnedL (t' := s.toks) I hf fun b o hb e => ?_⟩
    · have m1 := (Array.getElem?_eq_some_iff.mp f1).1
      have m2 := (Array.getElem?_eq_some_iff.mp f2).1
      rw [List.size_toArray] at m1 m2
      omega
    · simp only [List.mem_cons, List.not_mem_nil, or_false, not_or] at hb
      exact b7 b o hb.1 hb.2.2.1 hb.2.2.2.1 hb.2.2.2.2 e
  self := fun _ _ _ _ _ st h => wpAny_pyIter_zip st.1 h
section
unseal PEd PEf PTd PWd PAd PSd PSsd POd PGd PGsd PId PSx PSsx PTs PCd PCf
variable {X : Cx} {G : Gx} {fs : Fv} {f : Ev}
noncomputable def iZp (K : PySem.W.Frag) (ta : TA) : TI := fun σ H R => ta σ H fun vs H1 => ∃ k1 k2 a1 a2 xs ys, vs = [.ref a1, .ref a2] ∧ SqK k1 K H1 a1 xs ∧ SqK k2 K H1 a2 ys ∧ R (Itz K k1 k2 a1 a2) H1
theorem pi_zip {a b : Expr} {ta : TA} {p pos : Pos} {elts : List Expr} {x1 : Nat} {tp : Pos} (hg : Gl X "zip") (hm : X.mg "zip" = none) (ha : PA X [a, b] ta)
    (hs : starEach [a, b] X.env = [(false, eval a X.env), (false, eval b X.env)] := by rfl) (hs2 : starEach [b] X.env = [(false, eval b X.env)] := by rfl) : PI X (.Tuple elts x1 tp) (.Call (.Name "zip" p) [a, b] [] pos) (iZp X.K ta) := by
  intro pins s σ H R I h
  refine Call_ (ld_blt I hg hm boot_zip (PyProof.Rows.callWith_type1 (thn (ha pos pins s σ H _ I h) fun us s1 ⟨vs, H1, I1, r1, q1⟩ => ?_) (by rw [hs, hs2]) (by rw [hs2]; rfl)))
  obtain ⟨k1, k2, a1, a2, xs, ys, rfl, h1, h2, q⟩ := q1
  cases r1 with
  | cons r rr =>
    cases rr with
    | cons r' rr =>
      cases rr
      cases r
      cases r'
      obtain ⟨us, rv, p1, z1⟩ := sqI I1 h1
      obtain ⟨ws, rw_, p2, z2⟩ := sqI I1 h2
      refine zip_call p1 p2 fun h' b1 b6 => wpAny_pyIter_zip (s := { s1 with heap := h' }) b1.1 ?_
      refine ⟨s1.heap.objs.size + 4, _, _, _, H1, rfl, I1.kept (t' := s1.toks) b6, turn_zip k1 k2 a1 a2 s1.heap.objs.size p1.lt p2.lt, b1, fun b hb => ?_, q⟩
      have hb' : s1.heap.objs.size ≤ b := by
        simp only [List.mem_cons, List.not_mem_nil, or_false] at hb
        rcases hb with rfl | rfl | rfl | rfl | rfl <;> omega
      exact I1.fpOk hb' (I1.hok.fresh hb')
theorem pairD_get : ∀ (xs ys : List D) (i : Nat) (d : D), (pairD xs ys)[i]? = some d → ∃ a b, xs[i]? = some a ∧ ys[i]? = some b ∧ d = .tup [a, b]
  | a :: r, b :: q, 0, d, h => by cases h; exact ⟨a, b, rfl, rfl, rfl⟩
  | a :: r, b :: q, i + 1, d, h => pairD_get r q i d h
  | [], _, i, d, h => by cases i <;> cases h
  | a :: r, [], i, d, h => by cases i <;> cases h
theorem pairD_len : ∀ (xs ys : List D), (pairD xs ys).length = min xs.length ys.length
  | a :: r, b :: q => by
    have := pairD_len r q
    simp only [pairD, List.length_cons, this]
    omega
  | [], _ => by simp [pairD]
  | a :: r, [] => by simp [pairD]
theorem gives_zip {K : PySem.W.Frag} {Hi : Hp} {k1 k2 : Bool} {a1 a2 : Addr} {xs ys : List V} {ds es : List D} (h1 : SqK k1 K Hi a1 xs) (h2 : IsDs K Hi xs ds) (h3 : SqK k2 K Hi a2 ys) (h4 : IsDs K Hi ys es) :
    Gives K Hi (Itz K k1 k2 a1 a2) (pairD ds es) := fun Hi1 H1 s1 s2 i => by
  have g1 := sqK_mono (s1.trans s2) h1
  have g3 := sqK_mono (s1.trans s2) h3
  refine ⟨fun hl => ⟨xs, ys, g1, g3, ?_⟩, fun d hd => ?_⟩
  · rw [pairD_len] at hl
    have e1 := h2.length
    have e2 := h4.length
    omega
  · obtain ⟨a, b, ha, hb, rfl⟩ := pairD_get ds es i d hd
    obtain ⟨v, hv, rv⟩ := h2.at ha
    obtain ⟨w, hw, rw_⟩ := h4.at hb
    refine ⟨⟨xs, ys, v, w, g1, g3, hv, hw⟩, fun x H2 y => ?_⟩
    obtain ⟨p, x', y', rfl, hp, rfl, y1, y2⟩ := y
    have e1 := y1 xs g1
    have e2 := y2 ys g3
    rw [hv] at e1; cases e1
    rw [hw] at e2; cases e2
    have hi := s2.none hp
    have sm := same_new' hi (.tup [v, w])
    exact ⟨upd Hi1 p (.tup [v, w]), Ext.new s2 hp, .tup (.inl (.inl upd_same)) (.cons ((rv.mono s1).mono sm) (.cons ((rw_.mono s1).mono sm) .nil))⟩
theorem seqK {K : PySem.W.Frag} {H : Hp} {v : V} {d : D} {ds : List D} (h : IsD K H v d) (e : seqO d = some ds) : ∃ k a xs, v = .ref a ∧ SqK k K H a xs ∧ IsDs K H xs ds := by
  cases d with
  | lst es => cases e; obtain ⟨a, xs, rfl, h1, h2⟩ := h.lstI; exact ⟨true, a, xs, rfl, h1, h2⟩
  | tup es => cases e; obtain ⟨a, xs, rfl, h1, h2⟩ := h.tupI; exact ⟨false, a, xs, rfl, h1, h2⟩
  | _ => cases e
theorem i_zip {a b : Expr} {p pos : Pos} {elts : List Expr} {x1 : Nat} {tp : Pos} (hg : Gl X "zip") (hm : X.mg "zip" = none) (ha : PAd X G [a, b] fs)
    (hs : starEach [a, b] X.env = [(false, eval a X.env), (false, eval b X.env)] := by rfl) (hs2 : starEach [b] X.env = [(false, eval b X.env)] := by rfl) :
    PId X G (.Tuple elts x1 tp) (.Call (.Name "zip" p) [a, b] [] pos) (iZip fs) := PI.wk (pi_zip hg hm ha hs hs2) fun σ H Q q => by
  obtain ⟨ρ, Hi, R, ou⟩ := q
  refine outA R ou fun vs ds Hi1 H1 e1 R1 r1 o1 => ?_
  split at o1
  · rename_i x y
    obtain ⟨v, w, rfl, h, h'⟩ := r1.two
    split at o1
    · rename_i ds es q1 q2
      obtain ⟨k1, a1, xs, rfl, g1, g2⟩ := seqK h q1
      obtain ⟨k2, a2, ys, rfl, g3, g4⟩ := seqK h' q2
      exact ⟨k1, k2, a1, a2, xs, ys, rfl, sqK_mono R1.s g1, sqK_mono R1.s g3, o1.here R1.s _ (gives_zip g1 g2 g3 g4)⟩
    · exact o1.elim
  · exact o1.elim
end
end L3

namespace L3
open PySem PySem.Spec PyProof.Rows L2
unseal PEd PEf PTd PWd PAd PSd PSsd POd PGd PGsd PId PSx PSsx PTs PCd PCf
/-! ### a comprehension with names that the def itself has not -/
structure BlkOk2 (X : Cx) (xs : List Str) (scope : Scope) : Prop where
  kind : scope.kind = .function
  cell : ∀ y ∈ scope.names, y.2 ≠ .cell
  loc : ∀ x ∈ xs, scope.names.lookup x = some .local
  names : ∀ y ∈ scope.names, y.2 = .local → scope.names.lookup y.1 = some .local
  fre : ∀ p ∈ scope.names, p.2 = .free → X.env.kindOf p.1 = some .cell ∨ X.env.kindOf p.1 = some .free
  oth : ∀ y ∈ X.N, scope.names.lookup y ≠ some .local
noncomputable def cxC2 (X : Cx) (xs : List Str) (scope : Scope) (C : Addr) (s₂ : Shared) (H₂ : Hp) (fp : List Addr) : Cx :=
  { prog := X.prog, w := X.w, K := X.K, mg := X.mg, base := X.base, A := X.A, N := X.N ++ xs, s₀ := s₂, H₀ := H₂, env := compEnvC scope (cloG X.env scope.names []) C X.env, outer := X.stack, stack := X.stack,
    ex := fp, fn := fun _ => false, calm := X.calm, pn := X.pn, xe := fun _ _ => False }
section
variable {X : Cx} {pins : List (Addr × Obj)} {σ : St} {H : Hp} {s₂ : Shared} {xs : List Str} {scope : Scope} {fp : List Addr} {D C : Addr} {h₁ : Heap}
theorem BlkOk2.cl (B : BlkOk2 X xs scope) (I : Inv X pins σ H s₂) : ∀ p ∈ scope.names, p.2 = .free → ∃ c, X.env.cells.lookup p.1 = some c := fun p hp e => I.ok.has p.1 (B.fre p hp e)
theorem enter2 (I : Inv X pins σ H s₂) (B : BlkOk2 X xs scope) (hfp : ∀ b ∈ fp, FpOk X pins H b) (hfl : ∀ b ∈ fp, b < s₂.heap.objs.size) (hD : s₂.heap.objs.size ≤ D) (hC : s₂.heap.objs.size ≤ C) (hDC : D ≠ C)
    (old : ∀ b o, s₂.heap.get? b = some o → h₁.get? b = some o) {n : Nat} (hacc : h₁.get? D = some { cls := .type "list", data := .seq ([] : List Value).toArray n }) {m : Str → Option Value} (hns : h₁.Ns C m) (t : Nat) :
    Inv (cxC2 X xs scope C s₂ H fp) pins (σ ++ xs.map fun _ => none) (upd H D (.lst [])) { s₂ with heap := h₁, toks := t } := by
  have sub := clo_sub scope.names [] (B.cl I) (fun y c e => nomatch e)
  have old_lt : ∀ {b : Addr} {o : Obj}, s₂.heap.get? b = some o → b ≠ D ∧ b ≠ C := fun e => ⟨Nat.ne_of_lt (Nat.lt_of_lt_of_le (Heap.lt_size e) hD), Nat.ne_of_lt (Nat.lt_of_lt_of_le (Heap.lt_size e) hC)⟩
  have free : ∀ {b : Addr}, b ≠ D → H b = none → upd H D (.lst []) b = none := fun n e => by rw [upd_ne n]; exact e
  refine ⟨⟨I.ok.mod, B.kind, I.ok.glob, I.ok.blt, hC, fun y z c e1 e2 => I.ok.inj y z c (sub y c e1) (sub z c e2), fun y hy => ?_, fun y c e => (nomatch e), I.ok.hd, I.ok.frames, .inl rfl, fun b hb => ⟨Nat.ne_of_lt (Nat.lt_of_lt_of_le (hfl b hb) hC), fun y c e => (hfp b hb).2.2.2.2.1 y c (sub y c e)⟩,
    I.bs, Nat.le_trans I.ok.bsz I.sz, fun b o e hb => ?_, fun b hb z => ?_, I.stack, I.stkFree⟩, rfl, I.bare, Un.laid old hD (I.hok.fresh hD), ⟨m, hns, fun i y v e1 e2 e3 => ?_⟩, fun y c e => ?_, free (Ne.symm hDC) (I.hok.fresh hC), fun y c e => ?_, fun p hp => ?_, I.hok.laid old hD ⟨Nat.zero_le _, [], n, .nil, hacc⟩, ?_⟩
  · have : ∃ k, (k = NameKind.cell ∨ k = NameKind.free) ∧ ((relabel scope X.env).names).lookup y = some k := hy.elim (fun h => ⟨_, .inl rfl, h⟩) fun h => ⟨_, .inr rfl, h⟩
    obtain ⟨k, hk, e⟩ := this
    have e' : (y, NameKind.free) ∈ scope.names := by
      rcases rel_lookup e with z | ⟨_, z⟩
      · rcases hk with rfl | rfl
        · exact absurd rfl (B.cell _ (lookup_mem' z))
        · exact lookup_mem' z
      · exact lookup_mem' z
    exact clo_has scope.names [] y e'
  · rcases (hfp b hb).2.2.2.1 with z | z
    · exact I.ok.noex b o e z
    · exact absurd (Nat.lt_of_lt_of_le (Heap.lt_size e) (Nat.le_trans I.ok.bsz z)) (Nat.lt_irrefl _)
  · rcases List.mem_cons.mp (I.stkSub b z) with w | w
    · exact (hfp b hb).2.1 w
    · exact (hfp b hb).2.2.1 w
  · -- a name of the def that the block sees
    have hi : i < σ.length := by
      by_cases hi : i < σ.length
      · exact hi
      · exfalso
        rw [List.getElem?_append_right (by omega), List.getElem?_map] at e2
        cases q : xs[i - σ.length]? with
        | none => rw [q] at e2; cases e2
        | some z => rw [q] at e2; cases e2
    rw [List.getElem?_append_left hi] at e2
    have e1' : (X.N ++ xs)[i]? = some y := e1
    rw [List.getElem?_append_left (by rw [← I.len]; exact hi)] at e1'
    cases q : X.N[i]? with
    | none => rw [q] at e1'; cases e1'
    | some z =>
      rw [q] at e1'
      have hy : z = y := Option.some.inj e1'
      have hz : z ∈ X.N := List.mem_of_getElem? q
      subst hy
      have fr : (z, NameKind.free) ∈ scope.names := by
        rcases e3 with h | h | h
        · rcases rel_lookup h with h | ⟨h, _⟩
          · exact absurd h (B.oth z hz)
          · cases h
        · rcases rel_lookup h with h | ⟨_, h⟩
          · exact absurd rfl (B.cell _ (lookup_mem' h))
          · exact lookup_mem' h
        · rcases rel_lookup h with h | ⟨h, _⟩
          · exact lookup_mem' h
          · cases h
      have kd := B.fre _ fr rfl
      obtain ⟨m0, hn0, hl⟩ := I.loc
      obtain ⟨u, ru, lk⟩ := hl i z v q e2 (kd.elim (fun h => .inr (.inl h)) fun h => .inr (.inr h))
      refine ⟨u, ru, .inr ⟨?_, ?_⟩⟩
      · rcases e3 with h | h | h
        · rcases rel_lookup h with h | ⟨h, _⟩
          · exact absurd h (B.oth z hz)
          · cases h
        · exact .inl h
        · exact .inr h
      · rcases lk with ⟨k1, _⟩ | ⟨_, c, hc, hcell⟩
        · rcases kd with kd | kd <;> (rw [kd] at k1; cases k1)
        · obtain ⟨c', hc'⟩ := clo_has (env := X.env) scope.names [] z fr
          have := sub z c' hc'
          rw [hc] at this
          cases this
          obtain ⟨o, ho, hd⟩ := hcell
          exact ⟨c, hc', o, old _ _ ho, hd⟩
  · obtain ⟨v, o, ho, hd⟩ := I.cell y c (sub y c e)
    exact ⟨v, o, old _ _ ho, hd⟩
  · obtain ⟨v, o, ho, hd⟩ := I.cell y c (sub y c e)
    exact free (old_lt ho).1 (I.freeC y c (sub y c e))
  · obtain ⟨e, n, ne, nf, d⟩ := I.pin p hp
    refine ⟨old _ _ e, free (old_lt e).1 n, (old_lt e).2, fun z => ?_, d⟩
    rcases List.mem_cons.mp (I.stkSub _ z) with w | w
    · exact ne w
    · exact nf w
  · show (σ ++ xs.map fun _ => none).length = (X.N ++ xs).length
    rw [List.length_append, List.length_append, List.length_map, I.len]
end
theorem comp2D_cons {f : Ev} {ρ : Rho} {d : D} {ds es : List D} (h : comp2D f ρ (d :: ds) = .ok es) :
    ∃ a b e es', d = .tup [a, b] ∧ f (ρ ++ [.val a, .val b]) = .ok e ∧ comp2D f ρ ds = .ok es' ∧ es = e :: es' := by
  unfold comp2D at h
  split at h
  · cases ‹_ = []›
  · rename_i a b ds' q
    cases q
    cases hf : noErr (f (ρ ++ [.val a, .val b])) with
    | no => rw [hf] at h; cases h
    | err c => rw [hf] at h; cases h
    | ok e =>
      rw [hf] at h
      cases hr : comp2D f ρ ds with
      | no => simp only [Res.bind, hr] at h; cases h
      | err c => simp only [Res.bind, hr] at h; cases h
      | ok es' =>
        simp only [Res.bind, hr] at h
        cases h
        exact ⟨a, b, e, es', rfl, noErr_is hf, rfl, rfl⟩
  · cases h
theorem comp2D_ne {f : Ev} {ρ : Rho} {c : Str} : ∀ {ds : List D}, comp2D f ρ ds ≠ .err c
  | [] => fun h => by cases h
  | d :: ds => fun h => by
    unfold comp2D at h
    split at h
    · cases ‹_ = []›
    · rename_i a b ds' q
      cases q
      cases hf : noErr (f (ρ ++ [.val a, .val b])) with
      | no => rw [hf] at h; cases h
      | err c => cases q : f (ρ ++ [.val a, .val b]) <;> (rw [q] at hf; cases hf)
      | ok e =>
        rw [hf] at h
        cases hr : comp2D f ρ ds with
        | no => simp only [Res.bind, hr] at h; cases h
        | err c' => exact comp2D_ne hr
        | ok es' => simp only [Res.bind, hr] at h; cases h
    · cases h
section
variable {X : Cx} {G : Gx} {elt iter : Expr} {xa xb : Str} {pa pb tp pos : Pos} {x1 : Nat} {scope : Scope} {it : Fv} {f : Ev} {k : Nat}
theorem comp2_core (hc : X.calm = true ∧ TB X.K X.mg G.Bi G.B) (hr : Room k X.A) (Bk : BlkOk2 X [xa, xb] scope) (hN : (X.N ++ [xa, xb]).Nodup) (hi : PId X G (.Tuple [.Name xa pa, .Name xb pb] x1 tp) iter it)
    (hb : ∀ (C : Addr) (s₂ : Shared) (H₂ : Hp) (fp : List Addr) (G' : Gx), Good (cxC2 X [xa, xb] scope C s₂ H₂ fp) G' k → PEd (cxC2 X [xa, xb] scope C s₂ H₂ fp) G' elt f)
    (hs : ∀ x, foldedSetIterable iter X.env x = pure x := by intro _; rfl) 
    {pins : List (Addr × Obj)} {s : Shared} {σ : St} {H Hi : Hp} {ρ : Rho} {use : Option (Value → Sem Unit)} {Q' : Value → Shared → Prop} {Qa : Addr → Hp → Prop} {cpos : Pos} (I : Inv X pins σ H s) (R : RelX X G Hi H σ ρ)
    (ou : Out G Hi H ((fComp2 it f) ρ) fun ds Hi' H' => ∀ a, NewL X.K H Hi' H' a ds → Qa a H') (hend : EndC X pins σ use Q' Qa) :
    wpAny (model X.prog X.w) X.A (comprehension (.ListComp elt [⟨.Tuple [.Name xa pa, .Name xb pb] x1 tp, iter, [], 0⟩] scope pos) scope X.env cpos (newList []) false (eval iter X.env) use) Q' X.xe s := by
  refine wpAny_comprehension_free (use := use) rfl hs (clo_eq (Bk.cl I)) Bk.kind Bk.names ?_
  refine thn (hi pins s σ H (fun J H2 => ∃ ds Hi2, Ext Hi H Hi2 H2 ∧ Gives X.K Hi2 J ds ∧ Out G Hi2 H2 (if ds.length ≤ 16777215 then comp2D f ρ ds else .no) fun ds Hi' H' => ∀ a, NewL X.K H Hi' H' a ds → Qa a H') I
    ⟨ρ, Hi, R, (Out.bind ou).imp fun ds Hi2 H2 e2 o2 J gv => ⟨ds, Hi2, e2, gv, o2⟩⟩) fun v s1 h1 => thn h1 fun itv s2 h2 => ?_
  obtain ⟨itA, fp, tn, J, H2, rfl, I2, T, st2, f2, ds, Hi2, e2, gv, ou2⟩ := h2
  have hlen : ds.length ≤ 16777215 := by
    by_cases hlen : ds.length ≤ 16777215
    · exact hlen
    · rw [if_neg hlen] at ou2; exact ou2.elim
  rw [if_pos hlen] at ou2
  cases hes : comp2D f ρ ds with
  | no => rw [hes] at ou2; exact ou2.elim
  | err c => exact absurd hes comp2D_ne
  | ok es =>
    rw [hes] at ou2
    have R2 : RelX X G Hi2 H2 σ ρ := R.grow e2
    refine wpAny_newObj_type (wpAny_newFunctionEnv Bk.cell (by intro y hy; simp at hy) (fun h₁ hns₁ hsb₁ => ?_) Bk.kind)
    dsimp only at hns₁ hsb₁ ⊢
    generalize hH2 : s2.heap.push { cls := .type "list", dict := none, data := .seq ([] : List Value).toArray } = HP at hns₁ hsb₁ ⊢
    have hC : HP.objs.size = s2.heap.objs.size + 1 := by rw [← hH2, Heap.size_push]
    have hDC : s2.heap.objs.size ≠ HP.objs.size := by rw [hC]; omega
    have ltC : ∀ {b : Addr} {o : Obj}, s2.heap.get? b = some o → b ≠ HP.objs.size := fun e => by rw [hC]; exact Nat.ne_of_lt (Nat.lt_succ_of_lt (Heap.lt_size e))
    have old : ∀ b o, s2.heap.get? b = some o → h₁.get? b = some o := fun b o e => hsb₁.extBut b o (ltC e) (Heap.get?_push_of_some _ (hH2 ▸ Heap.get?_push_of_some _ e))
    have hacc : h₁.get? s2.heap.objs.size = some { cls := .type "list", data := .seq ([] : List Value).toArray 0 } := hsb₁.extBut _ _ hDC (Heap.get?_push_of_some _ (hH2 ▸ Heap.get?_push_size _ rfl))
    have hfl : ∀ b ∈ fp, b < s2.heap.objs.size := fun b hb => by obtain ⟨o, e, _⟩ := T.obj _ _ st2 b hb; exact Heap.lt_size e
    have IE := enter2 (t := s2.toks + ([] : List (Str × Value)).length) I2 Bk f2 hfl (Nat.le_refl _) (by rw [hC]; omega) hDC old hacc hns₁
    have sub := clo_sub scope.names [] (Bk.cl I2) (fun y c e => nomatch e)
    have H2D : H2 s2.heap.objs.size = none := I2.hok.fresh (Nat.le_refl _)
    have HD : H s2.heap.objs.size = none := e2.h.none H2D
    have Hi2D : Hi2 s2.heap.objs.size = none := e2.s.none H2D
    -- the block
    generalize hX : cxC2 X [xa, xb] scope HP.objs.size s2 H2 fp = Y at IE
    have GY : Good Y ⟨G.B, G.Bi, fun _ _ => False⟩ k := by
      subst hX
      exact ⟨hc.1, hr, fun pins σ H s e s' _ h => by obtain ⟨_, _, _, _, _, c, _, z⟩ := h; exact z.elim, PassesOwn.never, hc.2⟩
    have hel := (hX ▸ hb HP.objs.size s2 H2 fp ⟨G.B, G.Bi, fun _ _ => False⟩ (hX.symm ▸ GY) : PEd Y ⟨G.B, G.Bi, fun _ _ => False⟩ elt f)
    have stat : ∀ {H' : Hp}, (∀ b ∈ fp, H' b = none) → ∀ b ∈ fp, FpOk Y pins H' b := fun hn b hb => by
      subst hX
      refine ⟨hn b hb, ?_, fun z => ?_, .inl hb, fun y c e => (f2 b hb).2.2.2.2.1 y c (sub y c e), (f2 b hb).2.2.2.2.2⟩
      · show b ≠ HP.objs.size
        rw [hC]; exact Nat.ne_of_lt (Nat.lt_succ_of_lt (hfl b hb))
      · rcases List.mem_cons.mp (I2.stkSub b z) with w | w
        · exact (f2 b hb).2.1 w
        · exact (f2 b hb).2.2.1 w
    have YN : Y.N.Nodup := by subst hX; exact hN
    have Ya : Y.N[σ.length]? = some xa := by
      subst hX
      show (X.N ++ [xa, xb])[σ.length]? = some xa
      rw [List.getElem?_append_right (by rw [I2.len]; omega), I2.len, Nat.sub_self]
      rfl
    have Yb : Y.N[σ.length + 1]? = some xb := by
      subst hX
      show (X.N ++ [xa, xb])[σ.length + 1]? = some xb
      rw [List.getElem?_append_right (by rw [I2.len]; omega), I2.len, Nat.add_sub_cancel_left]
      rfl
    have Yla : Y.env.scope.names.lookup xa = some .local := by subst hX; exact lookup_relabel_local (Bk.loc xa (by simp))
    have Ylb : Y.env.scope.names.lookup xb = some .local := by subst hX; exact lookup_relabel_local (Bk.loc xb (by simp))
    have asg : PG Y (.Tuple [.Name xa pa, .Name xb pb] x1 tp) (L2.gTup Y.K 2 (L2.gCons (L2.gName σ.length) (L2.gCons (L2.gName (σ.length + 1)) L2.gNil))) :=
      pg_tup (by subst hX; exact hc.1) (pgs_cons (pg_name YN Ya (.inl Yla) (.inr Yla)) (pgs_cons (pg_name YN Yb (.inl Ylb) (.inr Ylb)) pgs_nil))
    have Ye : Y.env = compEnvC scope (cloG X.env scope.names []) HP.objs.size X.env := by subst hX; rfl
    have Yxe : ∀ e s, ¬ Y.xe e s := by subst hX; exact fun _ _ h => h
    have tn1 : tn 0 h₁ := T.keep _ _ _ st2 fun b _ o e => old b o e
    have loop : ∀ s3 : Shared, s3 = { s2 with heap := h₁, toks := s2.toks + ([] : List (Str × Value)).length } →
        codeAny (model X.prog X.w) X.A (.compLoop (.ListComp elt [⟨.Tuple [.Name xa pa, .Name xb pb] x1 tp, iter, [], 0⟩] scope pos) 0 (.ref itA) (.ref s2.heap.objs.size) Y.env) (compPost (model X.prog X.w) X.A X.xe use Q' (.ref s2.heap.objs.size) HP.objs.size) s3 := by
      rintro s3 rfl
      subst hX
      have fr0 : ∀ b ∈ fp, upd H2 s2.heap.objs.size (.lst []) b = none := fun b hb => by
        rw [upd_ne (Nat.ne_of_lt (hfl b hb))]
        exact (f2 b hb).1
      refine PyProof.Rows.LCp.codeAny_compLoop_pair (fun n s' => ∃ c : CW, n = ds.length - c.i ∧ CS (cxC2 X [xa, xb] scope HP.objs.size s2 H2 fp) pins σ tn fp Hi2 H2 s2.heap.objs.size 2 (fun i => comp2D f ρ (ds.drop i)) es c s') ?_ ds.length
        ⟨⟨0, [none, none], _, Hi2, [], [], es⟩, rfl, ⟨IE, rfl, tn1, fr0, (Ext.refl e2.s).trans (Ext.newF e2.s H2D), upd_same, Hi2D, .nil, Nat.le_refl _, hes, rfl⟩⟩
      · rintro n s3 ⟨⟨i, vv, H3, Hi3, ys, done, rest⟩, rfl, I3, wd3, st3, fr3, e3, hD3, hiD3, rd3, hl3, hr3, hes3⟩
        dsimp only at I3 wd3 st3 fr3 e3 hD3 hiD3 rd3 hl3 hr3 hes3 ⊢
        obtain ⟨v, v', rfl⟩ : ∃ v v', vv = [v, v'] := by
          match vv, wd3 with
          | [v, v'], _ => exact ⟨v, v', rfl⟩
        obtain ⟨w1, w2⟩ := gv Hi3 H3 e3.i e3.s i
        have lift : ∀ {α : Type} {m : Sem α} {Q' : α → Shared → Prop} {E : Value → Shared → Prop} {s' : Shared}, wpAny (model X.prog X.w) X.A m Q' (cxC2 X [xa, xb] scope HP.objs.size s2 H2 fp).xe s' → wpAny (model X.prog X.w) X.A m Q' E s' := fun h => wpAny_mono h (fun _ _ z => z) fun e s z => (Yxe e s z).elim
        by_cases hlt : i < ds.length
        · obtain ⟨d, hd⟩ : ∃ d, ds[i]? = some d := ⟨_, List.getElem?_eq_getElem hlt⟩
          obtain ⟨go, yl⟩ := w2 d hd
          have e4 : ds.drop i = d :: ds.drop (i + 1) := by
            rw [List.getElem?_eq_getElem hlt] at hd
            cases hd
            exact List.drop_eq_getElem_cons hlt
          rw [e4] at hr3
          refine thn (T.item (cxC2 X [xa, xb] scope HP.objs.size s2 H2 fp) rfl rfl rfl hc.1 i pins s3 _ H3 _ I3 (stat fr3) st3 go) fun r s4 ⟨u, hru, h4⟩ => ?_
          subst hru
          refine thn h4 fun _ s5 h5 => ?_
          obtain ⟨xv, H5, I5, r5, y5, st5, fr5⟩ := h5
          obtain ⟨Hi5, e5, rd5⟩ := yl xv H5 y5
          have I5' := I5.pinned (stat fr5) (T.obj _ _ st5)
          obtain ⟨a, b, e, es', rfl, hf, hr4, hee⟩ := comp2D_cons hr3
          obtain ⟨pa', ps, rfl, hq, hps⟩ := rd5.tupI
          obtain ⟨va, vb, rfl, ra, rb⟩ := hps.two
          refine lift (thn (asg _ s5 _ H5 _ u (fun σ' H' => σ' = σ ++ [some va, some vb] ∧ H' = H5) I5' r5 ⟨pa', _, rfl, sqT_mono (e3.trans e5).s hq, rfl, va, _, rfl, vb, _, rfl, rfl, ?_, rfl⟩) fun _ s6 h6 => ?_)
          · rw [List.set_append_right _ _ (Nat.le_refl _), Nat.sub_self, List.set_append_right _ _ (Nat.le_succ _), Nat.succ_sub (Nat.le_refl _), Nat.sub_self]; rfl
          obtain ⟨σ6, H6, I6, rfl, rfl⟩ := h6
          have E5 : Ext Hi2 H2 Hi5 H6 := e3.trans e5
          have R5 : RelX (cxC2 X [xa, xb] scope HP.objs.size s2 H2 fp) ⟨G.B, G.Bi, fun _ _ => False⟩ Hi5 H6 (σ ++ [some va, some vb]) (ρ ++ [.val a, .val b]) := by
            have := Rel.snoc (Rel.snoc (R2.grow E5) ra) rb
            rw [List.append_assoc, List.append_assoc] at this
            exact this
          obtain ⟨hD5, hiD5⟩ := e5.out hD3 hiD3
          have rd5' := rd3.mono e5.i
          -- the next turn
          have again : ∀ {H8 Hi8 : Hp} {ys' : List V} {done' rest' : List D} {s8 : Shared}, Inv (cxC2 X [xa, xb] scope HP.objs.size s2 H2 fp) (pins ++ pinsAt fp s5.heap) (σ ++ [some va, some vb]) H8 s8 → Ext Hi2 H2 Hi8 H8 → H8 s2.heap.objs.size = some (.lst ys') → Hi8 s2.heap.objs.size = none → IsDs X.K Hi8 ys' done' → done'.length ≤ i + 1 →
              comp2D f ρ (ds.drop (i + 1)) = .ok rest' → es = done' ++ rest' → ∃ m, m < ds.length - i ∧ ∃ c : CW, m = ds.length - c.i ∧ CS (cxC2 X [xa, xb] scope HP.objs.size s2 H2 fp) pins σ tn fp Hi2 H2 s2.heap.objs.size 2 (fun i => comp2D f ρ (ds.drop i)) es c s8 := fun {H8 Hi8 ys' done' rest' s8} I8 E8 a1 a2 a3 a4 a5 a6 => by
            refine ⟨ds.length - (i + 1), by omega, ⟨i + 1, [some va, some vb], H8, Hi8, ys', done', rest'⟩, rfl, ⟨I8.unpinned, rfl, T.keep _ _ _ st5 fun b hb o e => (I8.pin (b, o) (List.mem_append_right _ (List.mem_append_right _ (mem_pinsAt hb e)))).1, fun b hb => ?_, E8, a1, a2, a3, a4, a5, a6⟩⟩
            obtain ⟨o, e, _⟩ := T.obj _ _ st5 b hb
            exact (I8.pin (b, o) (List.mem_append_right _ (List.mem_append_right _ (mem_pinsAt hb e)))).2.1
          refine lift (thn (hel _ s6 _ H6 (fun w H' => ∃ Hi', Ext Hi5 H6 Hi' H' ∧ IsD X.K Hi' w e) I6 ⟨_, Hi5, R5, by rw [hf]; exact fun Hi' H' ee w hw => ⟨Hi', ee, hw⟩⟩) fun u8 s8 h8 => ?_)
          obtain ⟨w8, H8, I8, r8, Hi8, e8, rw8⟩ := h8
          obtain ⟨hD8, hiD8⟩ := e8.out hD5 hiD5
          have rdy : IsDs X.K Hi8 ys done := rd5'.mono e8.i
          refine lift (thn (mt_append (X := (cxC2 X [xa, xb] scope HP.objs.size s2 H2 fp)) _ s8 _ H8 (.ref s2.heap.objs.size) [w8] (.ref s2.heap.objs.size) [u8] (fun _ H' => H' = upd H8 s2.heap.objs.size (.lst (ys ++ [w8]))) I8 rfl (.cons r8 .nil) ⟨_, ys, w8, rfl, rfl, hD8, ?_, rfl⟩) fun _ s9 h9 => ?_)
          · rw [rdy.length]
            exact Nat.lt_of_le_of_lt hl3 (Nat.lt_of_lt_of_le hlt (Nat.le_trans hlen (by decide)))
          · obtain ⟨_, H9, I9, _, rfl⟩ := h9
            refine again I9 (Ext.rewrite (E5.trans e8) H2D hiD8 ⟨_, hD8⟩) upd_same hiD8 (rdy.snoc rw8) (by rw [List.length_append]; exact Nat.succ_le_succ hl3) hr4 ?_
            rw [hes3, hee, List.append_assoc]; rfl
        · rw [List.drop_eq_nil_of_le (by omega), comp2D] at hr3
          cases hr3
          refine thn (T.done (cxC2 X [xa, xb] scope HP.objs.size s2 H2 fp) rfl rfl rfl hc.1 i pins s3 _ H3 _ I3 (stat fr3) st3 (w1 (by omega))) fun r s4 ⟨hrn, I4⟩ => ?_
          subst hrn
          obtain ⟨m4, hn4, _⟩ := I4.loc
          have fC : H3 HP.objs.size = none := I4.free
          have nC : ∀ b u, H3 b = some u → b ≠ HP.objs.size := fun b u e z => by rw [z, fC] at e; cases e
          have U4 := I4.base
          refine hend HP.objs.size s2.heap.objs.size m4 s4 H3 hn4 (fun h' hs' => ?_) (I2.fpOk (by rw [hC]; omega) fC) ?_
          · have kp : ∀ b o, b ≠ HP.objs.size → s4.heap.get? b = some o → h'.get? b = some o := fun b o hb e => hs'.extBut b o hb e
            refine Inv.call' I2 (ch := fp) I4.os ⟨fun b o e n hb hx => kp b o (ltC e) (U4.keep b o e n hb hx), fun b o e n hb hx => ?_, U4.free, fun b o e hx => ?_, U4.tups, U4.frzs, U4.tbls⟩ (fun b u e => ?_) I4.bare (fun b hb => ⟨(f2 b hb).2.2.2.1, (f2 b hb).2.1, (f2 b hb).2.2.2.2.1, (f2 b hb).2.2.2.2.2⟩)
            · obtain ⟨sl, q⟩ := U4.slot b o e n hb hx
              exact ⟨sl, kp b _ (ltC e) q⟩
            · obtain ⟨o', q⟩ := U4.there b o e hx
              exact ⟨o', kp b _ (ltC e) q⟩
            · refine (I4.hok b u e).stay (fun c v hc q => kp c v ?_ q) (fun _ q => q) fun _ _ q => q
              rcases hc with z | z
              · rw [z]; exact nC b u e
              · exact nC c _ z
          · refine ou2 Hi3 H3 e3 _ ⟨HD, hiD3, ys, hD3, ?_⟩
            rw [hes3, List.append_nil]
            exact rd3
    rw [Ye] at loop
    exact codeAny_compStart_list (loop _ rfl) (T.self _ 0 _ _ _ tn1 (loop _ rfl))
theorem pf_comp2 (hc : X.calm = true ∧ TB X.K X.mg G.Bi G.B) (hr : Room k X.A) (Bk : BlkOk2 X [xa, xb] scope) (hN : (X.N ++ [xa, xb]).Nodup) (hi : PId X G (.Tuple [.Name xa pa, .Name xb pb] x1 tp) iter it)
    (hb : ∀ (C : Addr) (s₂ : Shared) (H₂ : Hp) (fp : List Addr) (G' : Gx), Good (cxC2 X [xa, xb] scope C s₂ H₂ fp) G' k → PEd (cxC2 X [xa, xb] scope C s₂ H₂ fp) G' elt f)
    (hs : ∀ x, foldedSetIterable iter X.env x = pure x := by intro _; rfl) : PEf X G (.ListComp elt [⟨.Tuple [.Name xa pa, .Name xb pb] x1 tp, iter, [], 0⟩] scope pos) (fComp2 it f) := by
  intro pins s σ H Q I w
  obtain ⟨ρ, Hi, R, ou⟩ := w
  rw [eval_ListComp]
  refine comp2_core hc hr Bk hN hi hb hs (use := none) (Qa := fun a H' => Q (.ref a) H') I R ou fun C A m s4 H3 hn hI _ q => ?_
  exact ⟨m, hn, fun h' hs' => ⟨.ref A, H3, hI h' hs', rfl, q⟩⟩
noncomputable def blkB2 (sc : Scope) (N : List Str) (xs : List Str) (scope : Scope) : Bool :=
  scope.names.all (fun y => y.2 != .cell) && xs.all (fun x => scope.names.lookup x == some .local) && scope.names.all (fun y => y.2 != .local || scope.names.lookup y.1 == some .local)
    && scope.names.all (fun p => p.2 != .free || (sc.names.lookup p.1 == some .cell || sc.names.lookup p.1 == some .free)) && N.all (fun y => scope.names.lookup y != some .local)
theorem blk_mk2 {sc : Scope} {N xs : List Str} (hk : scope.kind = .function) (hsc : X.env.scope = sc) (hN : X.N = N) (h : blkB2 sc N xs scope = true) : BlkOk2 X xs scope := by
  unfold blkB2 at h
  simp only [Bool.and_eq_true] at h
  obtain ⟨⟨⟨⟨h1, h2⟩, h3⟩, h4⟩, h5⟩ := h
  subst hN hsc
  refine ⟨hk, fun y hy e => ?_, fun x hx => ?_, fun y hy e => ?_, fun p hp e => ?_, fun y hy e => ?_⟩
  · have := List.all_eq_true.mp h1 y hy
    rw [e] at this; cases this
  · exact beq_iff_eq.mp (List.all_eq_true.mp h2 x hx)
  · have := List.all_eq_true.mp h3 y hy
    rw [e] at this
    simpa using this
  · have := List.all_eq_true.mp h4 p hp
    rw [e] at this
    have q : X.env.scope.names.lookup p.1 = some .cell ∨ X.env.scope.names.lookup p.1 = some .free := by simpa using this
    exact q
  · have := List.all_eq_true.mp h5 y hy
    rw [e] at this
    cases this
theorem pf_comp2B {sc : Scope} {N : List Str} (W : Good X G k) (hnd : (N ++ [xa, xb]).Nodup) (hk : scope.kind = .function) (hsc : X.env.scope = sc) (hN : X.N = N) (h : blkB2 sc N [xa, xb] scope = true) (hi : PId X G (.Tuple [.Name xa pa, .Name xb pb] x1 tp) iter it)
    (hb : ∀ (C : Addr) (s₂ : Shared) (H₂ : Hp) (fp : List Addr) (G' : Gx), Good (cxC2 X [xa, xb] scope C s₂ H₂ fp) G' k → PEd (cxC2 X [xa, xb] scope C s₂ H₂ fp) G' elt f)
    (hs : ∀ x, foldedSetIterable iter X.env x = pure x := by intro _; rfl) : PEf X G (.ListComp elt [⟨.Tuple [.Name xa pa, .Name xb pb] x1 tp, iter, [], 0⟩] scope pos) (fComp2 it f) :=
  pf_comp2 ⟨W.calm, W.tb⟩ W.room (blk_mk2 hk hsc hN h) (hN ▸ hnd) hi hb hs
end
end L3

namespace L3
open PySem PySem.Spec PyProof.Rows L2
/-! ### a part of a list or a tuple, the whole tuple among them -/
section
variable {prog : Program} {w : World} {A : Around} {E : Value → Shared → Prop} {s : Shared}
end
section
variable {X : Cx} {G : Gx} {fs : Fv} {f : Ev}
unseal PEd PEf PTd PWd PAd PSd PSsd POd PGd PGsd PId PSx PSsx PTs PCd PCf
end
end L3

namespace L3
open PySem PySem.Spec PyProof.Rows L2
unseal PEd PEf PTd PWd PAd PSd PSsd POd PGd PGsd PId PSx PSsx PTs PCd PCf
section
variable {X : Cx} {G : Gx} {f : Ev} {pos : Pos}
section
variable {o : Expr} {k : Nat} {b : Bool} {p1 p2 p3 : Pos}
end
section
variable {i fo : Nat} {x y : Str} {ea eb ec ct o0 o1 : Expr} {body rest : List Stmt} {a b : Fv} {cmp : Tv} {sr : Sv} {p1 p2 p3 p4 p5 p6 p7 p8 p9 p10 p11 p12 p13 p14 p15 p16 : Pos} {k5 k0 k1 : Nat}
end
section
variable {i j1 j2 j3 : Nat} {x : Str} {tg ec c1 c2 c3 esl ev o : Expr} {b2 b3 : List Stmt} {t1 t2 t3 : Tv} {sl : Fv} {g : Ev} {p1 p2 p3 p4 p5 p6 p7 p8 p9 : Pos}
end
end
end L3

namespace L3
open PySem PySem.Spec PyProof.Rows L2
unseal PEd PEf PTd PWd PAd PSd PSsd POd PGd PGsd PId PSx PSsx PTs PCd PCf
/-! ### sorted(range(..), key=..) -/
section
variable {prog : Program} {w : World} {A : Around} {E : Value → Shared → Prop} {s : Shared}
theorem collect_range {r : Addr} {a b c : Int} {t u v : Tok} {n : Nat} {R : List Value → Shared → Prop} (hh : A.handled = none) (hr : IsRange s.heap r a b c t u v) (hsmall : Builtin.Range.small a b c = true) (hn : Builtin.Range.rangeSize a b c = n) (hlen : n ≤ 2 ^ 24)
    (h : ∀ h' tk acc, (∀ b o, s.heap.get? b = some o → h'.get? b = some o) → s.heap.objs.size ≤ h'.objs.size → ItemsOf (fun i v => ∃ t, v = .int (a + i * c) t) acc n → R acc.toList { s with heap := h', toks := tk }) :
    wpAny (model prog w) A (collect (.ref r)) R E s := by
  unfold collect
  refine wpAny_bind (wpAny_runValue (codeAny_builtin entry_proto_collect' ?_))
  rw [Around.under_plainId PySem.F.plain_proto_collect _]
  show wpAny _ A.in1 (newList [] >>= fun l => again (.builtin "list.__iadd__" ⟨[l, .ref r], []⟩)) _ _ s
  refine wpAny_bind (wpAny_newObj_type ?_)
  refine wpAny_pure ⟨plainId_quiet PySem.F.plain_list_iadd _, codeAny_builtin entry_list_iadd' ?_⟩
  rw [Around.under_plainId PySem.F.plain_list_iadd _]
  have hS₁ : (s.heap.push { cls := .type "list", data := .seq ([] : List Value).toArray }).get? s.heap.objs.size = some { cls := .type "list", data := .seq #[] } := Heap.get?_push_size _ rfl
  show wpAny _ A.in1 (Builtin.List.listExtendWith (.ref s.heap.objs.size) (.ref r) (.ref s.heap.objs.size)) _ _ _
  have key := wpAny_extend_range (prog := prog) (w := w) (A := A) (s := { s with heap := s.heap.push { cls := .type "list", data := .seq ([] : List Value).toArray } })
    (R := fun (q : Result) (s' : Shared) => ∃ (h' : Heap) (tk : Nat) (acc' : Array Value) (c' : Nat), q = .ok (.ret (.ref s.heap.objs.size)) ∧ s' = { s with heap := h', toks := tk } ∧
      (∀ b o, s.heap.get? b = some o → h'.get? b = some o) ∧ h'.get? s.heap.objs.size = some { cls := .type "list", dict := none, data := .seq acc' c', slots := #[] } ∧ ItemsOf (fun i v => ∃ t, v = .int (a + i * c) t) acc' n)
    hh (Heap.get?_push_of_some _ hr) hsmall hn hlen s.heap.objs.size (.ref s.heap.objs.size) 0 hS₁
    (fun h' tk acc' c' hk hS' hacc => ⟨h', tk, acc', c', rfl, rfl, fun b o e => hk b o (Nat.ne_of_lt (Heap.lt_size e)) (Heap.get?_push_of_some _ e), hS', hacc⟩)
  refine wpAny_mono key (fun fin s' x => ?_) fun e s' x => ?_
  · cases fin with
    | done f =>
      obtain ⟨h', tk, acc', c', e, rfl, hk, hS', hacc⟩ := x
      cases e
      show wpAny _ A (load s.heap.objs.size >>= _) _ _ _
      refine wpAny_bind (wpAny_load hS' ?_)
      exact wpAny_pure (h h' tk acc' hk (Nat.le_of_lt (Heap.lt_size hS')) hacc)
    | again c₁ =>
      refine ⟨x.1, codeAny_mono x.2 fun q s₂ y => ?_⟩
      obtain ⟨h', tk, acc', c', rfl, rfl, hk, hS', hacc⟩ := y
      show wpAny _ A (load s.heap.objs.size >>= _) _ _ _
      refine wpAny_bind (wpAny_load hS' ?_)
      exact wpAny_pure (h h' tk acc' hk (Nat.le_of_lt (Heap.lt_size hS')) hacc)
  · obtain ⟨_, _, _, _, e', _⟩ := x
    cases e'
end
section
variable {X : Cx} {pins : List (Addr × Obj)} {σ : St} {H : Hp} {s : Shared} {A : Around} {E : Value → Shared → Prop} {a kS : Addr} {vs : List Value} {kz : List Int} {keys : Array Value} {e e1 : Nat} {P : PySem.Fin → Shared → Prop}
theorem fp_turned {h' : Heap} {tk : Nat} (f : FpOk X pins H a) (I : Inv X pins σ H s) (sb : Heap.SameBut a s.heap h') : Inv X pins σ H { s with heap := h', toks := tk } := by
  obtain ⟨f0, f1, f2, f3, f4, f5⟩ := f
  exact I.turned (fun b o hb e => (sb.2 b hb).trans e) f0 f1 f3 f4 f5
theorem sk_tail {st : SortSt} (I : Inv X pins σ H s) (fa : FpOk X pins H a) (fk : FpOk X pins H kS) (hka : kS ≠ a) (nk : s.heap.get? kS = some (seqObj "list" keys e)) (na : s.heap.get? a = some (seqObj "list" #[] e1))
    (hk : IntsAre keys.toList kz) (hlen : kz.length = vs.length) (h64 : vs.length < 64) (hp : (arrOf st).Perm (keys.zip vs.toArray)) (hs : SortedTo (arrOf st) (arrOf st).size) (hfl : failedOf st = none)
    (h : ∀ s' out c, Inv X pins σ H s' → s'.heap.get? a = some (seqObj "list" out c) → KskOut false kz vs out.toList → P (.done (.ret .none)) s') :
    wpAny (model X.prog X.w) A (ksk_tail a false e1 (.ref kS) st) P E s := by
  have hsz : keys.size = vs.length := by
    have h1 := hk.length
    rw [Array.length_toList] at h1
    omega
  have hsz2 : (arrOf st).size = vs.length := by rw [hp.size_eq, Array.size_zip, hsz, List.size_toArray, Nat.min_self]
  have hout : ((arrOf st).map (·.2)).size = vs.length := by rw [Array.size_map]; exact hsz2
  have s1 := Heap.SameBut.update s.heap kS (Obj.mapSeq fun _ => (#[] : Array Value))
  have na1 : (s.heap.update kS (Obj.mapSeq fun _ => (#[] : Array Value))).get? a = some (seqObj "list" #[] e1) := (s1.2 a hka.symm).trans na
  have s2 := Heap.SameBut.update (s.heap.update kS (Obj.mapSeq fun _ => (#[] : Array Value))) a (Obj.mapSeq fun _ => (arrOf st).map (·.2))
  obtain ⟨c2, hc2⟩ : ∃ c2, ((s.heap.update kS (Obj.mapSeq fun _ => (#[] : Array Value))).update a (Obj.mapSeq fun _ => (arrOf st).map (·.2))).get? a = some (seqObj "list" ((arrOf st).map (·.2)) c2) :=
    ⟨_, get?_update_seq na1 fun _ => (arrOf st).map (·.2)⟩
  unfold ksk_tail
  try dsimp only
  refine wpAny_bind (listUpdate_at nk rfl ?_ (by rw [hsz, sizeLine_eq]; omega) (Nat.zero_le _))
  refine wpAny_bind (wpAny_letGo ?_)
  refine wpAny_bind (seqEpoch_at na1 rfl ?_)
  refine wpAny_bind (listUpdate_at na1 rfl ?_ (Nat.zero_le _) (by simp only [Bool.false_eq_true, if_false]; exact Nat.le_trans (Nat.le_of_eq hout) (by rw [sizeLine_eq]; omega)))
  rw [hfl]
  simp only [bne_self_eq_false, Bool.false_eq_true, if_false]
  have I1 : Inv X pins σ H { s with heap := s.heap.update kS (Obj.mapSeq fun _ => (#[] : Array Value)) } := fp_turned fk (tk := s.toks) I s1
  have I2 : Inv X pins σ H { s with heap := (s.heap.update kS (Obj.mapSeq fun _ => (#[] : Array Value))).update a (Obj.mapSeq fun _ => (arrOf st).map (·.2)) } := (by have z := fp_turned (tk := s.toks) fa I1 s2; exact z)
  exact wpAny_pure (h _ _ c2 I2 hc2 (ksk_out (b := false) hk hp hs))
theorem sk_end (I : Inv X pins σ H s) (fa : FpOk X pins H a) (fk : FpOk X pins H kS) (hka : kS ≠ a) (nk : s.heap.get? kS = some (seqObj "list" keys e)) (na : s.heap.get? a = some (seqObj "list" #[] e1))
    (hk : IntsAre keys.toList kz) (hlen : kz.length = vs.length) (h64 : vs.length < 64)
    (h : ∀ s' out c, Inv X pins σ H s' → s'.heap.get? a = some (seqObj "list" out c) → KskOut false kz vs out.toList → P (.done (.ret .none)) s') :
    wpAny (model X.prog X.w) A (ksk_end a false vs.toArray e1 (.ref kS) keys) P E s := by
  have hsz : keys.size = vs.length := by
    have h1 := hk.length
    rw [Array.length_toList] at h1
    omega
  have hzs : (keys.zip vs.toArray).size = vs.length := by rw [Array.size_zip, hsz, List.size_toArray, Nat.min_self]
  unfold ksk_end
  try dsimp only
  simp only [Bool.false_eq_true, if_false]
  by_cases h2 : vs.toArray.size < 2
  · rw [if_pos h2, if_pos h2]
    refine wpAny_bind (wpAny_pure ?_)
    rw [StateT.run_pure]
    refine wpAny_bind (wpAny_pure ?_)
    try dsimp only
    refine sk_tail (st := SortSt.mk' general' (keys.zip vs.toArray) #[] 7 none) I fa fk hka nk na hk hlen h64 (Array.Perm.refl _) ?_ rfl h
    intro i j hij hj
    have hj2 : j < (keys.zip vs.toArray).size := hj
    rw [hzs] at hj2
    rw [List.size_toArray] at h2
    have : i = j := by omega
    subst this
    exact Int.le_refl _
  · rw [if_neg h2, if_neg h2]
    rw [List.size_toArray] at h2
    rw [ksk_kind hk (by rw [hsz]; omega)]
    refine wpAny_bind (wpAny_pure ?_)
    refine wpAny_bind (wpAny_mono (wpS_sortRuns (a₀ := keys.zip vs.toArray) (st := SortSt.mk' oneType' (keys.zip vs.toArray) #[] 7 none)
      (Q := fun _ st' => (arrOf st').Perm (keys.zip vs.toArray) ∧ failedOf st' = none ∧ SortedTo (arrOf st') (keys.zip vs.toArray).size)
      (ksk_intKeys hk) ⟨Array.Perm.refl _, rfl, rfl, rfl⟩ (by rw [hzs]; omega) (by rw [hzs]; exact h64) fun st' a1 a2 a3 => ⟨a1, a2, a3⟩) ?_ fun _ _ e => e)
    rintro ⟨⟨⟩, st'⟩ s' ⟨rfl, hp, hf, hs⟩
    try dsimp only
    exact sk_tail I fa fk hka nk na hk hlen h64 hp (by rw [hp.size_eq]; exact hs) hf h
theorem sk_rest {f : Value} {e0 : Nat} (I : Inv X pins σ H s) (fa : FpOk X pins H a) (fk : FpOk X pins H kS) (hka : kS ≠ a) (nk : s.heap.get? kS = some (seqObj "list" #[] e0)) (na : s.heap.get? a = some (seqObj "list" #[] e1))
    (hlen : kz.length = vs.length) (h64 : vs.length < 64)
    (turn : ∀ (i : Nat) (v : Value) (k : Int), vs[i]? = some v → kz[i]? = some k → ∀ (s' : Shared) (pl : List (Addr × Obj)), Inv X (pins ++ pl) σ H s' →
      wpAny (model X.prog X.w) A (call f [v]) (fun u s'' => (∃ t, u = .int k t) ∧ Inv X (pins ++ pl) σ H s'') (fun _ _ => False) s')
    (h : ∀ s' out c, Inv X pins σ H s' → s'.heap.get? a = some (seqObj "list" out c) → KskOut false kz vs out.toList → P (.done (.ret .none)) s') :
    wpAny (model X.prog X.w) A (ksk_rest a f false vs.toArray e1 (.ref kS)) P E s := by
  unfold ksk_rest
  refine wpAny_bind (wpAny_rule ?_)
  first
    | rw [List.forIn_toArray]
    | (rw [← Array.forIn_toList]; simp only [List.toList_toArray])
    | rw [← Array.forIn_toList]
  refine wpAny_bind (ksk_fold (fun i s' => ∃ kA e, Inv X pins σ H s' ∧ s'.heap.get? kS = some (seqObj "list" kA e) ∧ s'.heap.get? a = some (seqObj "list" #[] e1) ∧ IntsAre kA.toList (kz.take i)) vs 0 s
    ⟨#[], e0, I, nk, na, by simpa using IntsAre.nil⟩ ?step ?done)
  case step =>
    rintro j x s' hx ⟨kA, e, I', nk', na', hk⟩
    simp only [Nat.zero_add] at hk ⊢
    have hj : j < vs.length := (List.getElem?_eq_some_iff.mp hx).1
    obtain ⟨k, hkj⟩ : ∃ k, kz[j]? = some k := ⟨_, List.getElem?_eq_getElem (by omega)⟩
    have hz : kA.size ≤ vs.length := by
      have h1 := hk.length
      rw [Array.length_toList, List.length_take] at h1
      omega
    have pin : ∀ b ∈ [kS, a], ∃ o, s'.heap.get? b = some o ∧ ∀ v, o.data ≠ .cell v := fun b hb => by
      rcases List.mem_cons.mp hb with rfl | hb
      · exact ⟨_, nk', fun v z => by have z' : Data.seq _ _ = Data.cell v := z; cases z'⟩
      · rw [List.mem_singleton.mp hb]; exact ⟨_, na', fun v z => by have z' : Data.seq _ _ = Data.cell v := z; cases z'⟩
    have Ip : Inv X (pins ++ pinsAt [kS, a] s'.heap) σ H s' := I'.pinned (fun b hb => by
      rcases List.mem_cons.mp hb with rfl | hb
      · exact fk
      · rw [List.mem_singleton.mp hb]; exact fa) pin
    refine wpAny_bind (wpAny_attempt (wpAny_mono (turn j x k hx hkj s' _ Ip) (fun v s'' he => ?_) fun _ _ hF => hF.elim))
    obtain ⟨⟨t2, rfl⟩, I2p⟩ := he
    try dsimp only
    have nk2 : s''.heap.get? kS = some (seqObj "list" kA e) := (I2p.pin _ (List.mem_append_right _ (List.mem_append_right _ (mem_pinsAt (b := kS) (by simp) nk')))).1
    have na2 : s''.heap.get? a = some (seqObj "list" #[] e1) := (I2p.pin _ (List.mem_append_right _ (List.mem_append_right _ (mem_pinsAt (b := a) (by simp) na')))).1
    have I2 : Inv X pins σ H s'' := I2p.unpinned
    have s1 := Heap.SameBut.update s''.heap kS (Obj.mapSeq (·.push (.int k t2)))
    obtain ⟨c2, hc2⟩ : ∃ c2, (s''.heap.update kS (Obj.mapSeq (·.push (.int k t2)))).get? kS = some (seqObj "list" (kA.push (.int k t2)) c2) := ⟨_, get?_update_seq nk2 (·.push (.int k t2))⟩
    have ek : kz.take (j + 1) = kz.take j ++ [k] := by rw [List.take_add_one, hkj]; simp
    have ea : (kA.push (Value.int k t2)).toList = kA.toList ++ [Value.int k t2] := by simp
    refine wpAny_bind (listUpdate_at nk2 rfl ?_ (by rw [sizeLine_eq]; omega) (Nat.le_trans (Nat.le_of_eq (Array.size_push ..)) (by rw [sizeLine_eq]; omega)))
    exact wpAny_pure ⟨rfl, kA.push (.int k t2), c2, fp_turned fk (tk := s''.toks) I2 s1, hc2, (s1.2 a hka.symm).trans na2, by rw [ea, ek]; exact ksk_snoc hk⟩
  case done =>
    rintro s' ⟨kA, e, I', nk', na', hk⟩
    have hk' : IntsAre kA.toList kz := by
      have e3 : kz.take (0 + vs.length) = kz := List.take_of_length_le (by omega)
      rw [e3] at hk
      exact hk
    try dsimp only
    refine wpAny_bind (listItems_at nk' rfl ?_)
    exact sk_end I' fa fk hka nk' na' hk' hlen h64 h
noncomputable def natOf (v : Value) : Nat := (numOf v).toNat
theorem rank_of {out : List Value} (hlen : kz.length = vs.length) (hv : ∀ (j : Nat) (v : Value), vs[j]? = some v → ∃ t, v = .int j t) (h : KskOut false kz vs out) : IsRank kz (out.map natOf) ∧ Vals ((out.map natOf).map fun i : Nat => V.int (i : Int)) out := by
  obtain ⟨ps, hp, ho, hs⟩ := h
  have at' : ∀ p, p ∈ kz.zip vs → ∃ (j : Nat) (t : Tok), p.2 = .int j t ∧ kz[j]? = some p.1 := fun p hm => by
    obtain ⟨j, hj, e⟩ := List.mem_iff_getElem.mp hm
    rw [List.length_zip] at hj
    rw [List.getElem_zip] at e
    obtain ⟨t, ht⟩ := hv j (vs[j]'(by omega)) (List.getElem?_eq_getElem _)
    refine ⟨j, t, by rw [← e]; exact ht, by rw [← e]; exact List.getElem?_eq_getElem _⟩
  have n1 : ∀ (j : Nat) (t : Tok), natOf (.int j t) = j := fun j t => by unfold natOf; show (Int.toNat (j : Int)) = j; rfl
  have hvs : vs.map natOf = List.range kz.length := by
    refine List.ext_getElem? fun j => ?_
    rw [List.getElem?_map]
    by_cases hj : j < vs.length
    · obtain ⟨t, ht⟩ := hv j _ (List.getElem?_eq_getElem hj)
      rw [List.getElem?_eq_getElem hj, ht, List.getElem?_range (by omega)]
      show some (natOf _) = _
      rw [n1]
    · rw [List.getElem?_eq_none (by omega), List.getElem?_eq_none (by rw [List.length_range]; omega)]; rfl
  subst ho
  refine ⟨⟨?_, ?_⟩, ?_⟩
  · have h1 : ((ps.map Prod.snd).map natOf).Perm (((kz.zip vs).map Prod.snd).map natOf) := (hp.map _).map _
    rw [List.map_snd_zip (by omega), hvs] at h1
    exact h1
  · rw [List.map_map, List.pairwise_map]
    refine List.Pairwise.imp_of_mem (fun {p q} hm hq hr => ?_) hs
    have hr' : p.1 ≤ q.1 := by simpa using hr
    obtain ⟨i, t, e1, e2⟩ := at' p (hp.mem_iff.mp hm)
    obtain ⟨j, u, e3, e4⟩ := at' q (hp.mem_iff.mp hq)
    show kz.getD (natOf p.2) 0 ≤ kz.getD (natOf q.2) 0
    rw [e1, e3, n1, n1, List.getD_eq_getElem?_getD, List.getD_eq_getElem?_getD, e2, e4]
    exact hr'
  · have go : ∀ l : List Value, (∀ v ∈ l, ∃ (j : Nat) (t : Tok), v = .int j t) → Vals ((l.map natOf).map fun i : Nat => V.int (i : Int)) l := by
      intro l
      induction l with
      | nil => intro _; exact .nil
      | cons v r ih =>
        intro hl
        obtain ⟨j, t, rfl⟩ := hl v (.head _)
        exact .cons ⟨t, by rw [n1]⟩ (ih fun u hu => hl u (.tail _ hu))
    refine go _ fun v hv' => ?_
    obtain ⟨p, hm, rfl⟩ := List.mem_map.mp hv'
    obtain ⟨j, t, e1, _⟩ := at' p (hp.mem_iff.mp hm)
    exact ⟨j, t, e1⟩
theorem sk_sorted {r q : Addr} {n : Nat} {t u v : Tok} {Q : Value → Shared → Prop} (hc : X.calm = true) (I : Inv X pins σ H s) (hr : IsRange s.heap r 0 n 1 t u v) (h64 : n < 64) (hkz : kz.length = n)
    (turn : ∀ (j : Nat) (tk : Tok) (k : Int), kz[j]? = some k → ∀ (s' : Shared) (pl : List (Addr × Obj)), Inv X (pins ++ pl) σ H s' →
      wpAny (model X.prog X.w) X.A.in1.in1 (call (.ref q) [.int j tk]) (fun u s'' => (∃ t, u = .int k t) ∧ Inv X (pins ++ pl) σ H s'') (fun _ _ => False) s')
    (h : ∀ D s' out c π, Inv X pins σ H s' → FpOk X pins H D → s.heap.objs.size ≤ D → s'.heap.get? D = some (seqObj "list" out c) → IsRank kz π → Vals (π.map fun i : Nat => V.int (i : Int)) out.toList → Q (.ref D) s') :
    wpAny (model X.prog X.w) X.A (call (.builtin "sorted") [.ref r] [(Str.ofString "key", .ref q)]) Q E s := by
  refine call_function_entry_kw kind_sorted plain_sorted entry_sorted (ksk_s1 _ _) ?_
  unfold Builtin.«sorted»
  refine wpAny_bind (m := checkCount "sorted" 1 1 _) (wpAny_pure ?_)
  refine wpAny_bind (collect_range (n := n) (A := X.A.in1) (I.ok.hd hc) hr (small_one (by omega) (by omega) (by omega) (by omega)) (by rw [rangeSize_one]; split <;> omega) (by omega) fun h1 tk acc hk hsz hacc => ?_)
  have hl : acc.toList.length = n := by rw [Array.length_toList]; exact hacc.1
  refine wpAny_bind (wpAny_newList ?_ (by rw [hl, sizeLine_eq]; omega))
  have I1 : Inv X pins σ H { s with heap := h1, toks := tk } := I.kept hk
  have fa : FpOk X pins H h1.objs.size := I1.fpOk (Nat.le_refl _) (I1.hok.fresh (Nat.le_refl _))
  have I2 : Inv X pins σ H { s with heap := h1.push (seqObj "list" acc.toList.toArray 0), toks := tk } := I1.kept (t' := tk) fun b o e => Heap.get?_push_of_some _ e
  have hoL : (h1.push (seqObj "list" acc.toList.toArray 0)).get? h1.objs.size = some (seqObj "list" acc.toList.toArray 0) := Heap.get?_push_size _ rfl
  show wpAny _ _ _ _ _ { s with heap := h1.push (seqObj "list" acc.toList.toArray 0), toks := tk }
  refine wpAny_bind (wpAny_holding (wpAny_call_entry_kw slot_list_sort ⟨_, hoL, rfl⟩ entry_list_sort ?body (ksk_l1 _ _)))
  case body =>
    show wpAny (model X.prog X.w) X.A.in1.in1 (Builtin.«list.sort» ⟨[.ref h1.objs.size], [(Str.ofString "key", .ref q)]⟩) _ _ _
    rw [ksk_t1]
    have s3 := Heap.SameBut.update (h1.push (seqObj "list" acc.toList.toArray 0)) h1.objs.size (Obj.mapSeq fun _ => (#[] : Array Value))
    obtain ⟨e1, ho1⟩ : ∃ e1, ((h1.push (seqObj "list" acc.toList.toArray 0)).update h1.objs.size (Obj.mapSeq fun _ => (#[] : Array Value))).get? h1.objs.size = some (seqObj "list" #[] e1) := ⟨_, get?_update_seq hoL fun _ => #[]⟩
    have I3 : Inv X pins σ H { s with heap := (h1.push (seqObj "list" acc.toList.toArray 0)).update h1.objs.size (Obj.mapSeq fun _ => (#[] : Array Value)), toks := tk } := (by have z := fp_turned (tk := tk) fa I2 s3; exact z)
    generalize hg3 : (h1.push (seqObj "list" acc.toList.toArray 0)).update h1.objs.size (Obj.mapSeq fun _ => (#[] : Array Value)) = h3 at s3 ho1 I3
    unfold ksk_tree
    refine wpAny_bind (listItems_at hoL rfl ?_)
    refine wpAny_bind (listUpdate_at hoL rfl ?_ (by rw [List.size_toArray, sizeLine_eq]; omega) (Nat.zero_le _))
    show wpAny _ _ _ _ _ { s with heap := (h1.push (seqObj "list" acc.toList.toArray 0)).update h1.objs.size (Obj.mapSeq fun _ => (#[] : Array Value)), toks := tk }
    rw [hg3]
    refine wpAny_bind (seqEpoch_at ho1 rfl ?_)
    refine wpAny_bind (wpAny_newTuple ?_ (by show acc.toList.toArray.toList.length ≤ _; rw [sizeLine_eq, List.toList_toArray]; omega))
    refine wpAny_bind (wpAny_newList ?_ (Nat.zero_le _))
    refine wpAny_holding ?_
    have I4 : Inv X pins σ H { s with heap := h3.push (seqObj "tuple" acc.toList.toArray 0), toks := tk } := I3.kept (t' := tk) fun b o e => Heap.get?_push_of_some _ e
    have fk : FpOk X pins H (h3.push (seqObj "tuple" acc.toList.toArray 0)).objs.size := I4.fpOk (Nat.le_refl _) (I4.hok.fresh (Nat.le_refl _))
    have I5 : Inv X pins σ H { s with heap := (h3.push (seqObj "tuple" acc.toList.toArray 0)).push (seqObj "list" #[] 0), toks := tk } := I4.kept (t' := tk) fun b o e => Heap.get?_push_of_some _ e
    have ho4 : (h3.push (seqObj "tuple" acc.toList.toArray 0)).get? h1.objs.size = some (seqObj "list" #[] e1) := Heap.get?_push_of_some _ ho1
    refine sk_rest (vs := acc.toList) (kz := kz) (e0 := 0) I5 fa fk (Nat.ne_of_gt (Heap.lt_size ho4)) (Heap.get?_push_size _ rfl) (Heap.get?_push_of_some _ ho4) (by rw [hkz, hl]) (by rw [hl]; exact h64) (fun i v' k hi hk' s' pl Ip => ?_) fun s' out c I' ho' ko => ?_
    · obtain ⟨tk', rfl⟩ := hacc.2 i v' (by rw [← Array.getElem?_toList]; exact hi)
      have e3 : (0 : Int) + (i : Int) * 1 = (i : Int) := by omega
      rw [e3]
      exact turn i tk' k hk' s' pl Ip
    · obtain ⟨hπ, hV⟩ := rank_of (by rw [hkz, hl]) (fun j v' hj => by
        obtain ⟨tk', rfl⟩ := hacc.2 j v' (by rw [← Array.getElem?_toList]; exact hj)
        exact ⟨tk', by congr 1; omega⟩) ko
      exact ⟨_, rfl, wpAny_pure ⟨_, rfl, h _ s' out c _ I' fa hsz ho' hπ hV⟩⟩
end
end L3

namespace L3
open PySem PySem.Spec PyProof.Rows L2 PySem.W
unseal PEd PEf PTd PWd PAd PSd PSsd POd PGd PGsd PId PSx PSsx PTs PCd PCf
/-! ### a lambda: made, called -/
noncomputable def noCX : CXT := fun _ _ _ _ _ _ => False
/-- the context of a lambda's body -/
noncomputable def cxL (P : Program) (w : World) (K : PySem.W.Frag) (mg : Str → Option Value) (base : Heap) (N : List Str) (qual : Str) (scope : Scope) (f : Addr) (cd : Value) (cl : List (Str × Addr)) (A : Around) (outer : List Env) (s : Shared) (H : Hp) : Cx where
  prog := P
  w := w
  K := K
  mg := mg
  base := base
  A := A.deeper (envX qual scope s.heap.objs.size f cd cl)
  N := N
  s₀ := s
  H₀ := H
  env := envX qual scope s.heap.objs.size f cd cl
  outer := outer
  stack := envX qual scope s.heap.objs.size f cd cl :: outer
  ex := []
  fn := fun _ => false
  calm := true
  pn := []
  xe := fun _ _ => False
theorem lam_run {P : Program} {w : World} {K : PySem.W.Frag} {mg : Str → Option Value} {base : Heap} {N : List Str} {qual name : Str} {scope : Scope} {f c' : Addr} {cl : List (Str × Addr)} {A : Around} {outer : List Env} {s : Shared} {H : Hp} {params : Arguments} {body : Expr} {pm ctv u : Value} {p : Str} {σ : St} {Q : VK} {E : XK} {t : TE}
    (hd : A.handled = none) (hdp : A.depth < recursionLimit) (e0 : Env0 P w K mg base A outer s H) (ho : s.heap.get? f = some (kla_obj name qual params body scope cl pm c' ctv)) (hcd : s.heap.CodeRec (.ref c') qual)
    (hbind : bindArgs (kla_fn name qual params body scope cl pm (.ref c') ctv) ⟨[u], []⟩ = pure [(p, u)]) (hloc : scope.names.lookup p = some .local)
    (hco : scope.isCoroutine = false) (hgen : scope.isGenerator = false) (hk : scope.kind = .function) (hcell : ∀ x ∈ scope.names, x.2 ≠ .cell)
    (hfree : ∀ x, scope.names.lookup x = some .free → ∃ c, cl.lookup x = some c) (hinj : ∀ x y c, cl.lookup x = some c → cl.lookup y = some c → x = y)
    (hcl : ∀ x c, cl.lookup x = some c → (∃ v, s.heap.IsCell c v) ∧ H c = none) (hlen : σ.length = N.length)
    (hσ : ∀ (i : Nat) (x : Str) (v : V), N[i]? = some x → σ[i]? = some (some v) → (x = p ∧ RelV v u) ∨ (scope.names.lookup x = some .free ∧ ∃ c u', cl.lookup x = some c ∧ s.heap.IsCell c (some u') ∧ RelV v u'))
    (hb : PE (cxL P w K mg base N qual scope f (.ref c') cl A outer s H) body t) (hq : t σ H Q) :
    codeAny (model P w) A (.call (.ref f) ⟨[u], []⟩) (CR noCX outer P w H s Q E) s := by
  have lim : s.heap.NoLimit := e0.mod.nolimit.keeps fun b o e => (e0.bs b o e).1
  refine kla_callFunE hdp ho rfl hco hgen rfl hcd ?_
  rw [hbind]
  refine wpAny_pure (wpAny_newFunctionEnv hcell (fun y hy => by rw [List.mem_singleton.mp hy]; exact hloc) (fun h₁ hns hsb => ⟨lim.fresh _ hsb, ?_⟩) hk)
  have hk₁ : ∀ b o, s.heap.get? b = some o → h₁.get? b = some o := fun b o e => hsb.extBut b o (Nat.ne_of_lt (Heap.lt_size e)) (Heap.get?_push_of_some _ e)
  have noA : ∀ b : Addr, b ∉ (cxL P w K mg base N qual scope f (.ref c') cl A outer s H).ex := fun b z => absurd (show b ∈ ([] : List Addr) from z) (by simp)
  have I : Inv (cxL P w K mg base N qual scope f (.ref c') cl A outer s H) [] σ H { s with heap := h₁, toks := s.toks + 1 } := by
    refine ⟨⟨e0.mod, hk, rfl, rfl, Nat.le_refl _, hinj, fun y hy => ?_, fun y c z _ => ?_, fun _ => hd, Around.frames_deeper e0.frames, .inr ⟨rfl, rfl⟩, fun b z => absurd z (noA b), e0.bs, e0.bsz, fun b _ _ => noA b, fun b z => absurd z (noA b), e0.funs, e0.frf⟩,
      rfl, e0.bare, Un.kept hk₁, ⟨_, hns, fun i y v h1 h2 h3 => ?_⟩, fun y c h => ?_, e0.hok.fresh (Nat.le_refl _), fun y c h => (hcl y c h).2, fun p hp => absurd (show p ∈ ([] : List (Addr × Obj)) from hp) (by simp), e0.hok.kept hk₁, hlen⟩
    · have hy : scope.names.lookup y = some .cell ∨ scope.names.lookup y = some .free := hy
      rcases hy with hy | hy
      · exact absurd rfl (hcell _ (PySem.mem_of_lookup hy))
      · exact hfree y hy
    · cases z
    · rcases hσ i y v h1 h2 with ⟨rfl, r⟩ | ⟨hf, c, u', h4, ⟨o, h5, h6⟩, r⟩
      · exact ⟨u, r, .inl ⟨hloc, by simp [List.lookup]⟩⟩
      · exact ⟨u', r, .inr ⟨.inr hf, c, h4, o, hk₁ _ _ h5, h6⟩⟩
    · obtain ⟨⟨v, o, h5, h6⟩, _⟩ := hcl y c h
      exact ⟨v, o, hk₁ _ _ h5, h6⟩
  refine kla_codeExpr (wpAny_mono (hb [] _ σ H Q I hq) (fun v s' z => ?_) fun e s' z => False.elim z)
  obtain ⟨x, H', J, r, q⟩ := z
  exact ⟨x, H', J.os, J.bare, J.base, J.hok, r, q⟩
/-! made -/
theorem trip_ext {l : List Value} {a b : Int} {c : Value} (h : TriplesOk l) : TriplesOk (l ++ [rawInt a, rawInt b, c]) := TriplesOk_snoc a b c l h
theorem among_snoc {pos q : Pos} {c x : Value} (l : List Value) (h : TriplesOk l) (e : codeAmong q (l ++ [rawInt pos.line, rawInt pos.col, c]) = some x) : codeAmong q l = some x ∨ x = c := by
  fun_induction TriplesOk l with
  | case1 =>
    simp only [List.nil_append, codeAmong, rawInt] at e
    split at e
    · exact .inr (Option.some.inj e).symm
    · cases e
  | case2 a t b u y rest ih =>
    simp only [List.cons_append, codeAmong] at e ⊢
    split at e
    · rename_i hc; rw [if_pos hc]; exact .inl e
    · rename_i hc; rw [if_neg hc]; exact ih h e
  | case3 l h1 h2 => exact h.elim
/-- where the module's own builtins stand -/
noncomputable def BMn (base : Heap) (mg : Str → Option Value) : Prop := ∃ bm ob, mg "__builtins__" = some (.ref bm) ∧ bm ≠ builtinsNs ∧ base.get? bm = some ob ∧ ob.cls = .type "module" ∧ ob.dict = some builtinsNs ∧ ob.data = .plain
section
variable {X : Cx} {pins : List (Addr × Obj)} {σ : St} {H : Hp} {s : Shared} {P c c' : Addr}
/-- a table of code has grown by one code -/
theorem tab_grow {ps more : Array Value} {h' : Heap} {tk : Nat} {oc : Obj} (I : Inv X pins σ H s) (hP : H P = some (.tbl ps)) (hx : Heap.ExtBut P s.heap h') (hge : s.heap.objs.size ≤ c') (hc : h'.get? c' = some oc) (hP' : h'.get? P = some { cls := .none, data := .fields (ps ++ more) }) :
    Inv X pins σ (upd (upd H P (.tbl (ps ++ more))) c' (.frz oc (.own 0))) { s with heap := h', toks := tk } := by
  have nP : ∀ {b : Addr}, H b = none → b ≠ P := fun e z => by rw [z, hP] at e; cases e
  have cF : H c' = none := I.hok.fresh hge
  have nc : ∀ {b : Addr} {o : Obj}, s.heap.get? b = some o → b ≠ c' := fun e => Nat.ne_of_lt (Nat.lt_of_lt_of_le (Heap.lt_size e) hge)
  have hPc : P ≠ c' := ne_of_none hP cF
  have up : ∀ {b : Addr}, b ≠ P → b ≠ c' → upd (upd H P (.tbl (ps ++ more))) c' (.frz oc (.own 0)) b = H b := fun h1 h2 => by rw [upd_ne h2, upd_ne h1]
  have upP : upd (upd H P (.tbl (ps ++ more))) c' (.frz oc (.own 0)) P = some (.tbl (ps ++ more)) := by rw [upd_ne hPc, upd_same]
  have kd : ∀ {b : Addr} {o : HO}, H b = some o → (∀ qs, o ≠ .tbl qs) → upd (upd H P (.tbl (ps ++ more))) c' (.frz oc (.own 0)) b = some o := fun {b o} e hn => by
    rw [up (fun z => by rw [z, hP] at e; exact hn ps (Option.some.inj e).symm) (ne_of_none e cF)]; exact e
  refine I.un ⟨fun b o e n _ _ => hx b o (nP n) e, fun b o e n _ _ => ⟨o.slots, hx b o (nP n) e⟩, fun b o e n _ => by rw [up (nP n) (nc e)]; exact n, fun b o e _ => ?_, fun b xs e => kd e fun qs z => (by cases z), fun b o u e => kd e fun qs z => (by cases z), fun b qs e => ?_⟩ fun b u e => ?_
  · by_cases hb : b = P
    · subst hb; exact ⟨_, hP'⟩
    · exact ⟨o, hx b o hb e⟩
  · by_cases hb : b = P
    · subst hb
      rw [hP] at e; cases e
      exact ⟨more, upP⟩
    · exact ⟨#[], by rw [up hb (ne_of_none e cF), e]; simp⟩
  · by_cases h2 : b = c'
    · subst h2
      rw [upd_same] at e; cases e
      exact ⟨hc, oc, hc⟩
    · by_cases h1 : b = P
      · subst h1
        rw [upP] at e; cases e
        exact hP'
      · rw [up h1 h2] at e
        refine (I.hok b u e).stay (fun d v hd q => hx d v (fun z => ?_) q) (fun d q => kd q fun qs z => (by cases z)) fun d xs q => kd q fun qs z => (by cases z)
        rcases hd with rfl | hd
        · exact h1 z
        · rw [z, hP] at hd; cases hd
theorem keep_grow {ps : Array Value} {oc : Obj} {pos : Pos} {vs : Array Value} {t : Tok} (hP : H P = some (.tbl ps)) (cF : H c' = none) (hd : oc.data = .fields vs) (hv : vs[1]? = some (.str qualR t)) :
    Keep H (upd (upd H P (.tbl (ps ++ #[rawInt pos.line, rawInt pos.col, .ref c']))) c' (.frz oc (.own 0))) := by
  have hPc : P ≠ c' := ne_of_none hP cF
  have upP : upd (upd H P (.tbl (ps ++ #[rawInt pos.line, rawInt pos.col, .ref c']))) c' (.frz oc (.own 0)) P = some (.tbl (ps ++ #[rawInt pos.line, rawInt pos.col, .ref c'])) := by rw [upd_ne hPc, upd_same]
  have kd : ∀ {b : Addr} {o : HO}, H b = some o → b ≠ P → upd (upd H P (.tbl (ps ++ #[rawInt pos.line, rawInt pos.col, .ref c']))) c' (.frz oc (.own 0)) b = some o := fun {b o} e hn => by
    rw [upd_ne (ne_of_none e cF), upd_ne hn]; exact e
  refine ⟨fun b o e => ?_, fun Q T => ?_⟩
  · by_cases hb : b = P
    · subst hb
      rw [hP] at e; cases e
      exact .inr ⟨_, _, rfl, upP⟩
    · exact .inl (kd e hb)
  · obtain ⟨qs, e, ht, k⟩ := T
    have old : ∀ (q : Pos) (cv : Value), codeAmong q qs.toList = some cv → ∃ c oc' vs t u, cv = .ref c ∧ upd (upd H P (.tbl (ps ++ #[rawInt pos.line, rawInt pos.col, .ref c']))) c' (.frz oc (.own 0)) c = some (.frz oc' u) ∧ oc'.data = .fields vs ∧ vs[1]? = some (.str qualR t) := fun q cv z => by
      obtain ⟨c, oc', vs', t', u, r1, r2, r3⟩ := k q cv z
      exact ⟨c, oc', vs', t', u, r1, kd r2 (fun w => by rw [w, hP] at r2; cases r2), r3⟩
    by_cases hb : Q = P
    · subst hb
      rw [hP] at e; cases e
      have el : (ps ++ #[rawInt pos.line, rawInt pos.col, .ref c']).toList = ps.toList ++ [rawInt pos.line, rawInt pos.col, .ref c'] := by simp
      refine ⟨_, upP, by rw [el]; exact trip_ext ht, fun q cv z => ?_⟩
      rw [el] at z
      rcases among_snoc _ ht z with z | z
      · exact old q cv z
      · exact ⟨c', oc, vs, t, _, z, upd_same, hd, hv⟩
    · exact ⟨qs, kd e hb, ht, old⟩
theorem lam_make {params : Arguments} {body : Expr} {scope : Scope} {pos : Pos} {clos : List (Str × Addr)} {M : Model} {A : Around} {E : Value → Shared → Prop} {Q : Value → Shared → Prop} (I : Inv X pins σ H s) (tb : TabAt P H) (hC : ∀ h, X.K.In h → CodeHd h c P) (hcode : X.env.code = .ref c) (hq : X.env.qual ++ "<lambda>" = qualR) (hB : BMn X.base X.mg)
    (hcl : closureFor scope X.env = pure clos) (hdef : defaultsOf params X.env = ([], []))
    (h : ∀ f c' ctv oc vs t u H' s', Inv X pins σ H' s' → Keep H H' → (∀ b o, H b = some o → b ≠ P → H' b = some o) → FpOk X pins H' f → s.heap.objs.size ≤ f → s'.heap.get? f = some (kla_obj "<lambda>" qualR params body scope clos ((X.mg "__name__").getD .none) c' ctv) →
      H' c' = some (.frz oc u) → oc.data = .fields vs → vs[1]? = some (.str qualR t) → Q (.ref f) s') :
    wpAny M A (eval (.Lambda params body scope pos) X.env) Q E s := by
  obtain ⟨ps, hP, ht, hk⟩ := id tb
  have hPo : s.heap.get? P = some (tabObj ps) := I.hok P _ hP
  have hg : s.heap.Ns mainGlobals X.mg := I.mod.glob.keeps I.bk
  have hgP : mainGlobals ≠ P := fun z => by
    obtain ⟨o, es, ep, e, _⟩ := I.mod.glob
    have := (I.bs _ _ e).2
    rw [z, hP] at this; cases this
  have hb : s.heap.BuiltinsAt X.mg P := by
    obtain ⟨bm, ob, b1, b2, b3, b4, b5, b6⟩ := hB
    refine ⟨bm, ob, b1, b2, fun z => ?_, fun z => ?_, (I.bs _ _ b3).1, b4, b5, b6⟩
    · obtain ⟨o, es, ep, e, d, _⟩ := I.mod.glob
      rw [z, e] at b3; cases b3; rw [d] at b6; cases b6
    · have := (I.bs _ _ b3).2
      rw [z, hP] at this; cases this
  refine kla_eval hdef ?_
  rw [hq]
  cases hf : codeAmong pos ps.toList with
  | some cv =>
    obtain ⟨c', oc, vs, t, u, rfl, r1, r2, r3⟩ := hk pos cv hf
    refine kla_makeFunctionHit hcl I.ok.glob hg hcode (hC _ I.kIn) hPo ht hf hb fun ctv h' tk hkk hsz => ?_
    have I1 : Inv X pins σ H { s with heap := h', toks := tk } := I.kept hkk
    have I2 : Inv X pins σ H { s with heap := h'.push (kla_obj "<lambda>" qualR params body scope clos ((X.mg "__name__").getD .none) c' ctv), toks := tk } := I1.kept (t' := tk) fun b o e => Heap.get?_push_of_some _ e
    exact h _ c' ctv oc vs t u H _ I2 (Keep.refl _) (fun b o e _ => e) (I1.fpOk (Nat.le_refl _) (I1.hok.fresh (Nat.le_refl _))) hsz (Heap.get?_push_size _ rfl) r1 r2 r3
  | none =>
    refine kla_makeFunction hcl I.ok.glob hg hcode (hC _ I.kIn) hPo ht hf hgP hb fun c' ctv h' tk hx hge hlt hrec htb => ?_
    obtain ⟨c₂, oc, vs, t, e2, hoc, hd, hv⟩ := hrec
    cases e2
    have I1 := tab_grow (tk := tk) I hP hx hge hoc htb
    have I2 := I1.kept (t' := tk) (h' := h'.push (kla_obj "<lambda>" qualR params body scope clos ((X.mg "__name__").getD .none) c' ctv)) fun b o e => Heap.get?_push_of_some _ e
    have cF : H c' = none := I.hok.fresh hge
    exact h _ c' ctv oc vs t _ _ _ I2 (keep_grow hP cF hd hv) (fun b o e hb => by rw [upd_ne (ne_of_none e cF), upd_ne hb]; exact e) (I1.fpOk (Nat.le_refl _) (I1.hok.fresh (Nat.le_refl _))) (Nat.le_of_lt (Nat.lt_of_le_of_lt hge hlt)) (Heap.get?_push_size _ rfl) upd_same hd hv
end
end L3

namespace L3
open PySem PySem.Spec PyProof.Rows L2 PySem.W
unseal PEd PEf PTd PWd PAd PSd PSsd POd PGd PGsd PId PSx PSsx PTs PCd PCf
/-! ### places by their keys -/
theorem isDs_nats {K : PySem.W.Frag} {H : Hp} : ∀ π : List Nat, IsDs K H (π.map fun i : Nat => V.int (i : Int)) (natsD π)
  | [] => .nil
  | n :: ns => .cons (.int n) (isDs_nats ns)
/-! ### sorted(range(len(some)), key=lambda spot: ..) -/
noncomputable def lamArgs (p : Pos) : Arguments := { posonlyargs := [], args := [{ arg := "spot", annotation := none, pos := p }], vararg := none, kwonlyargs := [], kw_defaults := [], kwarg := none, defaults := [] }
noncomputable def lamScope : Scope := { kind := .function, names := [(PySem.Str.ofString "spot", .local), (PySem.Str.ofString "bottom", .free), (PySem.Str.ofString "some", .free)], isGenerator := false, isCoroutine := false, more := [] }
section
variable {X : Cx} {p1 p2 p3 p4 p5 p6 p7 p8 p9 pa pb pc pd pe pf pg ph pi pj : Pos}
theorem lam_body {b k : Int} {a : Addr} {xs : List V} {rows : List D} {d : D} {j : Nat} {Hi H : Hp} {Q : VK} {σ : St} (hN : X.N = (["spot", "some", "bottom"] : List Str)) (hsc : X.env.scope = lamScope) {pz : Pos}
    (hσ : σ = [some (.int j), some (.ref a), some (.int b)]) (hq : SqL X.K Hi a xs ∨ SqT X.K Hi a xs) (hs : IsDs X.K Hi xs rows) (sm : Same Hi H) (hd : rows[j]? = some d) (hk : keyD b d = .ok k) (q : Q (.int k) H) :
    ∃ t, PE X (.BinOp (.Subscript (.Subscript (.Name "some" p1) (.Name "spot" p2) p3) (.Constant (.int 0) 0 p4) p5) .Mult
      (.BinOp (.Name "bottom" p6) .FloorDiv (.Subscript (.Subscript (.Name "some" p7) (.Name "spot" p8) p9) (.Constant (.int 1) 0 pa) pb) pc) pz) t ∧ t σ H Q := by
  have v0 : PE X (.Name "spot" p2) (tVar 0) := pe_var (by rw [hN]; rfl) (by rw [hsc]; exact .inl (by decide +kernel))
  have v0' : PE X (.Name "spot" p8) (tVar 0) := pe_var (by rw [hN]; rfl) (by rw [hsc]; exact .inl (by decide +kernel))
  have v1 : PE X (.Name "some" p1) (tVar 1) := pe_var (by rw [hN]; rfl) (by rw [hsc]; exact .inr (.inr (by decide +kernel)))
  have v1' : PE X (.Name "some" p7) (tVar 1) := pe_var (by rw [hN]; rfl) (by rw [hsc]; exact .inr (.inr (by decide +kernel)))
  have v2 : PE X (.Name "bottom" p6) (tVar 2) := pe_var (by rw [hN]; rfl) (by rw [hsc]; exact .inr (.inr (by decide +kernel)))
  refine ⟨_, pe_op op_mulA (pe_ix ix_both (pe_ix ix_both v1 v0 (fun _ _ => rfl)) pe_int (fun _ _ => rfl)) (pe_op op_divA v2 (pe_ix ix_both (pe_ix ix_both v1' v0' (fun _ _ => rfl)) pe_int (fun _ _ => rfl))), ?_⟩
  obtain ⟨t, c, rfl, h1, h2, rfl⟩ := keyD_ok hk
  obtain ⟨v, hv, r⟩ := hs.at hd
  obtain ⟨ra, ys, rfl, h3, h4⟩ := r.tupI
  obtain ⟨u1, u2, rfl, r1, r2⟩ := h4.two
  have e1 := r1.intI
  have e2 := r2.intI
  subst e1 e2
  have S3 := sqT_mono sm h3
  subst hσ
  have row : ∀ Q' : VK, Q' (.ref ra) H → (rIxL X.K (.ref a) (.int j) H Q' ∨ rIxT X.K (.ref a) (.int j) H Q') := fun Q' q' => by
    rcases hq with hq | hq
    · exact .inl ⟨a, xs, j, .ref ra, rfl, rfl, sqL_mono sm hq, atI_nat hv, q'⟩
    · exact .inr ⟨a, xs, j, .ref ra, rfl, rfl, sqT_mono sm hq, atI_nat hv, q'⟩
  refine ⟨.ref a, rfl, .int j, rfl, row _ (.inr ⟨ra, _, 0, .int t, rfl, rfl, S3, rfl, ?_⟩)⟩
  refine ⟨.int b, rfl, .ref a, rfl, .int j, rfl, row _ (.inr ⟨ra, _, 1, .int c, rfl, rfl, S3, rfl, ?_⟩)⟩
  exact ⟨b, c, rfl, rfl, h1, t, b.fdiv c, rfl, rfl, h2, q⟩
theorem pe_rng {a : Expr} {ta : TA} {p pos : Pos} (hg : Gl X "range") (hm : X.mg "range" = none) (ha : PA X [a] ta) (hs : starEach [a] X.env = [(false, eval a X.env)] := by rfl) :
    PE X (.Call (.Name "range" p) [a] [] pos) (fun σ H Q => ta σ H fun vs H1 => ∃ n : Nat, vs = [.int n] ∧ ∀ r, H1 r = none → Q (.ref r) (upd H1 r (.rng 0 n))) := by
  intro pins s σ H Q I h
  refine wpAny_Call_Name_kw (ld_blt I hg hm boot_range (PyProof.Rows.callWith_type1 (thn (ha pos pins s σ H _ I h) fun us s1 ⟨vs, H1, I1, r1, q1⟩ => ?_) hs rfl))
  obtain ⟨n, e, q⟩ := q1
  subst e
  obtain ⟨u, rfl, t, rfl⟩ := vals1 r1
  refine call_range_1 ⟨.ref s1.heap.objs.size, _, I1.laid (fun b o e => Heap.get?_push_of_some _ e) (Nat.le_refl _) ?_, rfl, q _ I1.fresh⟩
  exact ⟨_, _, _, Heap.get?_push_size _ rfl⟩
/-- what stands around the lambda -/
structure RankCx (X : Cx) (P c : Addr) : Prop where
  calm : X.calm = true
  dp : X.A.depth < recursionLimit
  n0 : X.N[0]? = some ("some" : Str)
  n1 : X.N[1]? = some ("bottom" : Str)
  k0 : X.env.kindOf "some" = some .cell
  k1 : X.env.kindOf "bottom" = some .cell
  code : X.env.code = .ref c
  hd : ∀ h, X.K.In h → CodeHd h c P
  qual : X.env.qual ++ "<lambda>" = qualR
  bm : BMn X.base X.mg
  clo : ∃ cs cb, closureFor lamScope X.env = pure [(("some" : Str), cs), (("bottom" : Str), cb)] ∧ X.env.cells.lookup ("some" : Str) = some cs ∧ X.env.cells.lookup ("bottom" : Str) = some cb
  gS : Gl X "sorted"
  mS : X.mg "sorted" = none
  gR : Gl X "range"
  mR : X.mg "range" = none
  gL : Gl X "len"
  mL : X.mg "len" = none
noncomputable def tRank (X : Cx) (P : Addr) : TE := fun σ H Q => ∃ Hi a xs rows b kz, σ[0]? = some (some (.ref a)) ∧ σ[1]? = some (some (.int b)) ∧ (SqL X.K Hi a xs ∨ SqT X.K Hi a xs) ∧ IsDs X.K Hi xs rows ∧ Same Hi H ∧ keysD b rows = .ok kz ∧ kz.length < 64 ∧ TabAt P H ∧ Hi P = none ∧
  ∀ π r Hi' H', IsRank kz π → Ext Hi H Hi' H' → NewL X.K H Hi' H' r (natsD π) → Q (.ref r) H'
theorem inv_cell {pins : List (Addr × Obj)} {σ : St} {H : Hp} {s : Shared} {i : Nat} {x : Str} {v : V} {c : Addr} (I : Inv X pins σ H s) (hi : X.N[i]? = some x) (hv : σ[i]? = some (some v)) (hk : X.env.kindOf x = some .cell) (hc : X.env.cells.lookup x = some c) : ∃ u, RelV v u ∧ s.heap.IsCell c (some u) := by
  obtain ⟨m, hn, hl⟩ := I.loc
  obtain ⟨u, r, l⟩ := hl i x v hi hv (.inr (.inl hk))
  refine ⟨u, r, ?_⟩
  rcases l with ⟨z, _⟩ | ⟨_, c', z, q⟩
  · rw [hk] at z; cases z
  · rw [hc] at z; cases z; exact q
theorem pe_rank {P c : Addr} (R : RankCx X P c) {pk pl pm pn : Pos} (hs1 : starEach [.Name "some" p3] X.env = (false, eval (.Name "some" p3) X.env) :: starEach [] X.env := by rfl)
    (hs2 : starEach [.Call (.Name "len" p2) [.Name "some" p3] [] p4] X.env = [(false, eval (.Call (.Name "len" p2) [.Name "some" p3] [] p4) X.env)] := by rfl)
    (hs3 : starEach [.Call (.Name "range" p1) [.Call (.Name "len" p2) [.Name "some" p3] [] p4] [] p5] X.env = (false, eval (.Call (.Name "range" p1) [.Call (.Name "len" p2) [.Name "some" p3] [] p4] [] p5) X.env) :: starEach [] X.env := by rfl) :
    PE X (.Call (.Name "sorted" pk) [.Call (.Name "range" p1) [.Call (.Name "len" p2) [.Name "some" p3] [] p4] [] p5] [⟨some "key", .Lambda (lamArgs p6) (.BinOp (.Subscript (.Subscript (.Name "some" p7) (.Name "spot" p8) p9) (.Constant (.int 0) 0 pa) pb) .Mult
      (.BinOp (.Name "bottom" pc) .FloorDiv (.Subscript (.Subscript (.Name "some" pd) (.Name "spot" pe) pf) (.Constant (.int 1) 0 pg) ph) pi) pj) lamScope pl, pm⟩] pn) (tRank X P) := by
  intro pins s σ H Q I h
  obtain ⟨Hi, a, xs, rows, b, kz, e0, e1, hq, hds, sm, hkz, h64, tb, hiP, q⟩ := h
  obtain ⟨hl1, hl2⟩ := keysD_ok hkz
  have hlen : xs.length = kz.length := by rw [hds.length, hl1]
  refine wpAny_Call_Name_kw (ld_blt I R.gS R.mS boot_sorted ?_ (by decide) (by decide))
  have vS : PE X (.Name "some" p3) (tVar 0) := pe_var R.n0 (.inr (.inl R.k0))
  have pR := pe_rng (p := p1) (pos := p5) R.gR R.mR (pa_cons (pe_callB (p := p2) (pos := p4) call_len_seq R.gL R.mL boot_len (pa_cons vS pa_nil hs1) (by decide) (by decide) hs1) pa_nil (by rw [hs2]; rfl)) hs2
  refine callWith_kw (thn ((pa_cons pR pa_nil hs3) pn pins s σ H (fun vs H1 => ∃ r, vs = [.ref r] ∧ H r = none ∧ H1 = upd H r (.rng 0 kz.length)) I ?reads) fun us s1 ⟨vs, H1, I1, r1, q1⟩ => ?_) (by rw [hs3]; rfl) (by rw [hs3]; rfl)
  case reads =>
    refine ⟨.ref a, e0, a, xs, rfl, hq.imp (sqL_mono sm) (sqT_mono sm), xs.length, rfl, fun r hr => ⟨r, rfl, hr, by rw [hlen]⟩⟩
  obtain ⟨r, rfl, hr, rfl⟩ := q1
  obtain ⟨u, rfl, ru⟩ := vals1 r1
  cases ru
  obtain ⟨cs, cb, hcl, hcs, hcb⟩ := R.clo
  have x1 : Ext Hi H Hi (upd H r (.rng 0 kz.length)) := Ext.newF sm hr
  refine kws_cons (lam_make I1 (x1.h.t P tb) R.hd R.code R.qual R.bm hcl rfl fun f c' ctv oc vs t u H3 s3 I3 hkeep hsame hf hfs hfo hc1 hc2 hc3 => kws_nil ?_)
  have x2 : Ext Hi H Hi H3 := x1.trans ⟨Same.refl _, hkeep, fun b o e => hsame b o (x1.s _ _ e) (fun z => by rw [z, hiP] at e; cases e), fun b e z => absurd e z⟩
  have hr3 : H3 r = some (.rng 0 kz.length) := hkeep.at upd_same
  obtain ⟨t1, t2, t3, hrg⟩ := I3.hok r _ hr3
  have I3p : Inv X (pins ++ [(f, kla_obj "<lambda>" qualR (lamArgs p6) _ lamScope [("some", cs), ("bottom", cb)] ((X.mg "__name__").getD .none) c' ctv)]) σ H3 s3 := I3.pins_of fun p hp => by
    rcases List.mem_append.mp hp with hp | hp
    · exact I3.pin p (List.mem_append_right _ hp)
    · rw [List.mem_singleton.mp hp]
      exact ⟨hfo, hf.1, hf.2.1, hf.2.2.1, fun v z => by have z' : Data.func _ = Data.cell v := z; cases z'⟩
  refine sk_sorted (kz := kz) R.calm I3p hrg h64 rfl (fun j tk k hj s' pl Ip => ?_) fun D s' out c2 π I' fD hDs hD hπ hV => ?_
  · obtain ⟨d, hd, hk⟩ := hl2 j k hj
    have hfo' := (Ip.pin _ (List.mem_append_right _ (List.mem_append_left _ (List.mem_append_right _ (List.mem_singleton.mpr rfl))))).1
    obtain ⟨u0, r0, ce0⟩ := inv_cell Ip R.n0 e0 R.k0 hcs
    obtain ⟨u1, r1, ce1⟩ := inv_cell Ip R.n1 e1 R.k1 hcb
    have look : ∀ {x : Str} {c : Addr}, List.lookup x [(("some" : Str), cs), (("bottom" : Str), cb)] = some c → (x = "some" ∧ c = cs) ∨ (x = "bottom" ∧ c = cb) := fun {x c} z => by
      have z' := PySem.mem_of_lookup z
      rcases List.mem_cons.mp z' with z' | z'
      · cases z'; exact .inl ⟨rfl, rfl⟩
      · cases List.mem_singleton.mp z'; exact .inr ⟨rfl, rfl⟩
    have hne : cs ≠ cb := fun z => by
      have := Ip.ok.inj _ _ _ hcs (z ▸ hcb)
      exact absurd this (by decide)
    have lam : ∃ t, PE (cxL X.prog X.w X.K X.mg X.base ["spot", "some", "bottom"] qualR lamScope f (.ref c') [("some", cs), ("bottom", cb)] X.A.in1.in1 X.stack s' H3) _ t ∧ t [some (.int j), some (.ref a), some (.int b)] H3 (fun v H' => v = .int k ∧ H' = H3) :=
      lam_body (p1 := p7) (p2 := p8) (p3 := p9) (p4 := pa) (p5 := pb) (p6 := pc) (p7 := pd) (p8 := pe) (p9 := pf) (pa := pg) (pb := ph) (pc := pi) (pz := pj) rfl rfl rfl hq hds x2.s hd hk ⟨rfl, rfl⟩
    obtain ⟨tt, hb, hqq⟩ := lam
    refine wpAny_call (codeAny_mono (lam_run (E := fun _ _ _ => False) (p := "spot") (Ip.ok.hd R.calm) R.dp Ip.env0.in1.in1 hfo' ⟨c', oc, vs, t, rfl, (Ip.hok c' _ hc1).1, hc2, hc3⟩ rfl (by decide +kernel) rfl rfl rfl (by decide +kernel) (fun x hx => ?_) (fun x y c z1 z2 => ?_) (fun x c z => ?_) rfl (fun i x v z1 z2 => ?_) hb hqq) fun res s'' hres => ?_)
    · have hx' := PySem.mem_of_lookup hx
      rcases List.mem_cons.mp hx' with z | hx'
      · cases z
      · rcases List.mem_cons.mp hx' with z | hx'
        · cases z; exact ⟨cb, rfl⟩
        · cases List.mem_singleton.mp hx'; exact ⟨cs, rfl⟩
    · rcases look z1 with ⟨rfl, rfl⟩ | ⟨rfl, rfl⟩ <;> rcases look z2 with ⟨rfl, w⟩ | ⟨rfl, w⟩
      · rfl
      · exact absurd w hne
      · exact absurd w.symm hne
      · rfl
    · rcases look z with ⟨rfl, rfl⟩ | ⟨rfl, rfl⟩
      · exact ⟨⟨_, ce0⟩, Ip.freeC _ _ hcs⟩
      · exact ⟨⟨_, ce1⟩, Ip.freeC _ _ hcb⟩
    · match i, z1, z2 with
      | 0, z1, z2 => cases z1; cases z2; exact .inl ⟨rfl, tk, rfl⟩
      | 1, z1, z2 => cases z1; cases z2; exact .inr ⟨by decide +kernel, cs, u0, rfl, ce0, r0⟩
      | 2, z1, z2 => cases z1; cases z2; exact .inr ⟨by decide +kernel, cb, u1, rfl, ce1, r1⟩
      | i + 3, z1, z2 => simp at z2
    · cases res with
      | error ev => exact False.elim hres
      | ok fl =>
        cases fl with
        | ret u =>
          obtain ⟨v, H', J, rv, rfl, rfl⟩ := Ip.after hres
          obtain ⟨t', rfl⟩ := rv
          exact ⟨⟨t', rfl⟩, J⟩
        | next => exact False.elim hres
        | brk => exact False.elim hres
        | cont => exact False.elim hres
  · have I'' : Inv X pins σ H3 s' := I'.unpinned
    obtain ⟨f0, f1, f2, f3, f4, f5⟩ := fD
    have h0 : X.s₀.heap.get? D = none := Heap.get?_none_of_le (Nat.le_trans I3.sz hDs)
    have hl := hV.length
    have okL : ObjOk X.prog X.w (upd H3 D (.lst (π.map fun i : Nat => V.int (i : Int)))) s'.heap D (.lst (π.map fun i : Nat => V.int (i : Int))) := by
      refine ⟨?_, out.toList, c2, hV, by rw [Array.toArray_toList]; exact hD⟩
      rw [List.length_map, hπ.1.length_eq, List.length_range, sizeLine_eq]; omega
    have I4 := I''.track f0 h0 f1 f4 (fun p hp => f5 p (by
      rcases List.mem_append.mp hp with hp | hp
      · exact List.mem_append_left _ hp
      · exact List.mem_append_right _ (List.mem_append_left _ hp))) okL
    refine ⟨.ref D, _, I4, rfl, q π D Hi _ hπ (x2.trans (Ext.newF x2.s f0)) ⟨x2.h.none f0, x2.s.none f0, _, upd_same, isDs_nats π⟩⟩
end
end L3

namespace L3
open PySem PySem.Spec PyProof.Rows L2 PySem.W
unseal PEd PEf PTd PWd PAd PSd PSsd POd PGd PGsd PId PSx PSsx PTs PCd PCf
/-! ### ranked: what it promises -/
noncomputable def spR (K : PySem.W.Frag) (mg : Str → Option Value) (kf : List D → Res (List Int)) : Sp := fun vs H Q _ => vs.length = 1 ∧ ∃ Bi ds, TB K mg Bi H ∧ Same Bi H ∧ IsDs K Bi vs ds ∧ match kf ds with
  | .ok kz => ∀ π a Hi' H', IsRank kz π → Ext Bi H Hi' H' → NewL K H Hi' H' a (natsD π) → Q (.ref a) H'
  | _ => False
structure CanR (P : Program) (w : World) (K : PySem.W.Frag) (mg : Str → Option Value) (base : Heap) (k : Nat) (kf : List D → Res (List Int)) : Prop where
  ex : ∃ f fd, FnOk P w K mg base (CX1 P w) k f fd ["some"] (spR K mg kf) ∧ Binds K fd ["some"] [] ∧ PySem.W.keepIn K (.ref f) = true ∧ mg "ranked" = some (.ref f)
theorem CanR.mono {P : Program} {w : World} {K : PySem.W.Frag} {mg : Str → Option Value} {base : Heap} {j k : Nat} {kf : List D → Res (List Int)} (c : CanR P w K mg base j kf) (h : j ≤ k) : CanR P w K mg base k kf := by
  obtain ⟨f, fd, F, r⟩ := c.ex
  exact ⟨⟨f, fd, F.mono h, r⟩⟩
structure RankDef (st : Stmt) : Prop where
  k0 : (defScope st).names.lookup ("some" : Str) = some .cell
  k1 : (defScope st).names.lookup ("bottom" : Str) = some .cell
  gS : (defScope st).names.lookup ("sorted" : Str) = some .globalImplicit
  gR : (defScope st).names.lookup ("range" : Str) = some .globalImplicit
  gL : (defScope st).names.lookup ("len" : Str) = some .globalImplicit
  clo : ∀ L f cdv, ∃ cs cb, closureFor lamScope (envOfC "ranked" (defScope st) L f cdv) = pure [(("some" : Str), cs), (("bottom" : Str), cb)] ∧ (envOfC "ranked" (defScope st) L f cdv).cells.lookup ("some" : Str) = some cs ∧ (envOfC "ranked" (defScope st) L f cdv).cells.lookup ("bottom" : Str) = some cb
section
variable {P : Program} {w : World} {K : PySem.W.Frag} {mg : Str → Option Value} {base : Heap} {st s1 s2 : Stmt} {f : Addr} {fd : FuncData} {k : Nat} {sa sb : Sv} {p1 p2 p3 p4 p5 p6 p7 p8 p9 pa pb pc pd pe pf pg ph pi pj pk pl pm pn po : Pos}
theorem fn_rank {T : Addr} (F : Fn K mg "ranked" st ["some"] f fd) (S : FnScope ["some", "bottom", "each"] ["some"] (defScope st)) (D : RankDef st) (hT : IsTabP K mg T) (hB : BMn base mg) (mS : mg "sorted" = none) (mR : mg "range" = none) (mL : mg "len" = none)
    (hbody : defBody st = [s1, s2, .Return (some (.Call (.Name "sorted" pk) [.Call (.Name "range" p1) [.Call (.Name "len" p2) [.Name "some" p3] [] p4] [] p5] [⟨some "key", .Lambda (lamArgs p6) (.BinOp (.Subscript (.Subscript (.Name "some" p7) (.Name "spot" p8) p9) (.Constant (.int 0) 0 pa) pb) .Mult
      (.BinOp (.Name "bottom" pc) .FloorDiv (.Subscript (.Subscript (.Name "some" pd) (.Name "spot" pe) pf) (.Constant (.int 1) 0 pg) ph) pi) pj) lamScope pl, pm⟩] pn)) po])
    (h : ∀ (cdv : Value) (A : Around) (outer : List Env) (s : Shared) (H : Hp) (E : XK) (G : Gx), Good (BX P w K mg base ["some", "bottom", "each"] "ranked" st f cdv A outer s H E) G k → GoodR (BX P w K mg base ["some", "bottom", "each"] "ranked" st f cdv A outer s H E) G →
      PSd (BX P w K mg base ["some", "bottom", "each"] "ranked" st f cdv A outer s H E) G s1 sa ∧ PSd (BX P w K mg base ["some", "bottom", "each"] "ranked" st f cdv A outer s H E) G s2 sb) :
    CanR P w K mg base (k + 1) (kRank sa sb) := by
  refine ⟨f, fd, ?_, F.bd, F.kp, F.mg⟩
  obtain ⟨f', oc', od', fd', osl', c, t1, t2, t3, t4⟩ := id hT
  have ef : f' = f := by have := t1.symm.trans F.mg; exact Value.ref.inj (Option.some.inj this)
  subst ef
  obtain ⟨oc, od, kV, doc, pm', an, cdv, ct, osl, rfl, lk, hcd⟩ := F.fn.ex
  have efd : cdv = .ref c := by
    rw [lk] at t2
    cases t2
    exact t3
  subst efd
  refine fn_of lk hcd S (fun vs H Q E h => h.1) fun A outer s H vs Q E hr hsp => ?_
  obtain ⟨hl, Bi, ds, tb, sm, hd, hq⟩ := hsp
  have hg := good_cx (P := P) (w := w) (K := K) (mg := mg) (base := base) (N := ["some", "bottom", "each"]) (outer := outer) (H := H) (Bi := Bi) (E := E) hr tb
  obtain ⟨h1, h2⟩ := h (.ref c) A outer s H E _ hg goodR_cx
  have RC : RankCx (BX P w K mg base ["some", "bottom", "each"] "ranked" st f' (.ref c) A outer s H E) T c :=
    ⟨rfl, hr.depth, rfl, rfl, D.k0, D.k1, rfl, t4, by show (("ranked" : Str) ++ ".<locals>.") ++ "<lambda>" = qualR; decide +kernel, hB, D.clo _ _ _, D.gS, mS, D.gR, mR, D.gL, mL⟩
  have body : ∀ G, PSs (BX P w K mg base ["some", "bottom", "each"] "ranked" st f' (.ref c) A outer s H E) [s1] (tS (BX P w K mg base ["some", "bottom", "each"] "ranked" st f' (.ref c) A outer s H E) G sa) → PS (BX P w K mg base ["some", "bottom", "each"] "ranked" st f' (.ref c) A outer s H E) s1 (tS (BX P w K mg base ["some", "bottom", "each"] "ranked" st f' (.ref c) A outer s H E) G sa) → PS (BX P w K mg base ["some", "bottom", "each"] "ranked" st f' (.ref c) A outer s H E) s2 (tS (BX P w K mg base ["some", "bottom", "each"] "ranked" st f' (.ref c) A outer s H E) G sb) →
      PSs (BX P w K mg base ["some", "bottom", "each"] "ranked" st f' (.ref c) A outer s H E) (defBody st) (tSeq (tS (BX P w K mg base ["some", "bottom", "each"] "ranked" st f' (.ref c) A outer s H E) G sa) (tSeq (tS (BX P w K mg base ["some", "bottom", "each"] "ranked" st f' (.ref c) A outer s H E) G sb) (tRet (tRank (BX P w K mg base ["some", "bottom", "each"] "ranked" st f' (.ref c) A outer s H E) T)))) := fun G _ h1 h2 => by
    rw [hbody]
    exact pss_cons h1 (pss_cons h2 (pss_one (ps_ret (pe_rank RC))))
  refine ⟨_, body _ (pss_one h1) h1 h2, ?_⟩
  cases ek : kRank sa sb ds with
  | no => rw [ek] at hq; exact hq.elim
  | err c => rw [ek] at hq; exact hq.elim
  | ok kz =>
    rw [ek] at hq
    unfold kRank at ek
    split at ek
    case isFalse => cases ek
    split at ek
    case h_2 => cases ek
    rename_i ρ1 e1
    split at ek
    case h_2 => cases ek
    rename_i ρ2 e2
    refine ⟨L3.start 3 ds, Bi, start_rel (N := ["some", "bottom", "each"]) sm hd, ?_⟩
    rw [e1]
    intro σ1 Hi1 H1 sm1 R1
    refine ⟨ρ1, Hi1, R1, ?_⟩
    rw [e2]
    intro σ2 Hi2 H2 sm2 R2
    unfold keysAt at ek
    split at ek
    case h_2 => cases ek
    rename_i rows b z0 z1
    split at ek
    case isFalse => cases ek
    rename_i h64
    obtain ⟨v, q0, r0⟩ := R2.slot 0 _ z0
    obtain ⟨v1, q1, r1⟩ := R2.slot 1 _ z1
    obtain ⟨a, xs, rfl, g1, g2⟩ := r0.lstI
    have r1' := r1.intI
    subst r1'
    obtain ⟨tb2, n2⟩ := hg.tb.ext R2.ext T hT
    exact ⟨Hi2, a, xs, rows, b, kz, q0, q1, .inl g1, g2, R2.s, ek, by rw [(keysD_ok ek).1]; exact h64, tb2, n2, fun π r Hi' H' hπ x nl => hq π r Hi' H' hπ (R2.ext.trans x) ⟨R2.ext.h.none nl.1, nl.2⟩⟩
end
/-! ### for spot in ranked(..): the end is the same for each order of ties -/
section
variable {X : Cx} {G : Gx} {e : Expr} {es : List Expr} {pos p : Pos} {fs : Fv} {k : Nat} {kf : List D → Res (List Int)} {tg : Expr} {body rest : List Stmt} {g : Gv} {sa sb : Sv}
noncomputable def tIr (X : Cx) (G : Gx) (fs : Fv) (kf : List D → Res (List Int)) : TI := fun σ H R => ∃ ρ Hi, RelX X G Hi H σ ρ ∧ Out G Hi H ((fs ρ).bind kf) fun kz Hi' H' => ∀ π J, IsRank kz π → Gives X.K Hi' J (natsD π) → R J H'
theorem pi_rank (W : Good X G k) (c : CanR X.prog X.w X.K X.mg X.base k kf) (hkf : ∀ ds c, kf ds ≠ .err c) (hk1 : ∀ ds, kf ds ≠ .no → ds.length = 1) (hg : Gl X "ranked") (ha : PAd X G [e] fs) (he : starEach [e] X.env = (false, eval e X.env) :: starEach [] X.env := by rfl) :
    PI X tg (.Call (.Name "ranked" p) [e] [] pos) (tIr X G fs kf) := by
  obtain ⟨f, fd, F, b, kp, hm⟩ := c.ex
  refine PI.wk (pi_list (pe_call F W.room hg hm kp b .nil W.pass ha (by decide) he rfl)) fun σ H R q => ?_
  obtain ⟨ρ, Hi, Rl, ou⟩ := q
  refine outA Rl ou fun vs ds Hi1 H1 e1 R1 r1 o1 => ?_
  rw [List.append_nil]
  have hno : kf ds ≠ .no := fun z => by rw [z] at o1; exact o1
  refine ⟨by rw [r1.length]; exact hk1 ds hno, Hi1, ds, W.tb.ext R1.ext, R1.s, r1, ?_⟩
  cases z : kf ds with
  | no => exact absurd z hno
  | err c => exact absurd z (hkf ds c)
  | ok kz =>
    rw [z] at o1
    intro π a Hi2 H2 hπ e2 n
    obtain ⟨n1, n2, xs, n3, n4⟩ := n
    have x3 := e2.hold n1 n3 n2
    refine ⟨a, rfl, ⟨xs, SqL.of n3⟩, o1 _ _ x3 π _ hπ (gives_lst (SqL.of upd_same) (n4.mono (same_new' n2 _)))⟩
theorem ss_rank (W : Good X G k) (c : CanR X.prog X.w X.K X.mg X.base k kf) (hkf : ∀ ds c, kf ds ≠ .err c) (hk1 : ∀ ds, kf ds ≠ .no → ds.length = 1) (hg : Gl X "ranked") (ha : PAd X G [e] fs) (hgt : PGd X G tg g) (hge : ∀ d ρ c, g d ρ ≠ .err c) (hb : PSsd X G body sa) (hr : PSsd X G rest sb)
    (he : starEach [e] X.env = (false, eval e X.env) :: starEach [] X.env := by rfl) {pf : Pos} (hs : ∀ x, foldedSetIterable (.Call (.Name "ranked" p) [e] [] pos) X.env x = pure x := by intro _; rfl) :
    PSsd X G (.For tg (.Call (.Name "ranked" p) [e] [] pos) body [] pf :: rest) (sRank fs kf g sa sb) := by
  refine PSs.wk (pss_cons (ps_for W.own W.calm (pi_rank W c hkf hk1 hg ha he) hgt hb hs) hr) fun E σ H q => ?_
  obtain ⟨ρ, Hi, R, h⟩ := q
  refine ⟨ρ, Hi, R, finOf R h fun kz Hi1 H1 _ e1 h1 π J hπ gv => ?_⟩
  have hn : allRank kz (fun π => sSeq (fun ρ => loop g sa (natsD π) ρ) sb ρ) ≠ .no := fun z => by rw [z] at h1; exact h1
  rw [← allRank_at hn hπ] at h1
  exact for_go hge (R.grow e1) (seqFn (sa := fun ρ => loop g sa (natsD π) ρ) h1) gv
end
end L3

namespace L3
open PySem PySem.Spec PyProof.Rows L2 PySem.W
unseal PEd PEf PTd PWd PAd PSd PSsd POd PGd PGsd PId PSx PSsx PTs PCd PCf
/-! ### a law over code that makes lambdas -/
noncomputable def spLT (K : PySem.W.Frag) (mg : Str → Option Value) : Sp := fun vs H Q _ => ∃ (a : Addr) (ns : List Int) (Bi : Hp), vs = [.ref a] ∧ TB K mg Bi H ∧ Same Bi H ∧ SqL K Bi a (ns.map V.int) ∧ ns.length ≤ 63 ∧ ∀ H', Q (.bl true) H'
theorem law_atR {P : Program} {w : World} {K : PySem.W.Frag} {mg : Str → Option Value} {base : Heap} {k : Nat} {m : Mir} {f : Addr} {fd : FuncData} (F : FnOk P w K mg base (CX1 P w) k f fd ["script"] (spM K mg 1 m))
    (h : ∀ ns : List Int, ns.length ≤ 63 → m [.lst (ns.map D.int)] = .ok (.v (.bl true))) : FnOk P w K mg base (CX1 P w) k f fd ["script"] (spLT K mg) := by
  refine F.imp fun vs H Q E q => ?_
  obtain ⟨a, ns, Bi, rfl, tb, sm, hS, hl, q⟩ := q
  refine ⟨rfl, Bi, [.lst (ns.map D.int)], tb, sm, .cons (.lst hS (isDs_ints ns)) .nil, ?_⟩
  rw [h ns hl]
  intro v Hi' H' e r
  rw [r.blI]
  exact q H'
theorem tabP_inj {K : PySem.W.Frag} {mg : Str → Option Value} {h : Heap} {T T' : Addr} (X : K.In h) (a : IsTabP K mg T) (b : IsTabP K mg T') : T' = T := by
  obtain ⟨f, oc, od, fd, osl, c, a1, a2, a3, a4⟩ := a
  obtain ⟨f', oc', od', fd', osl', c', b1, b2, b3, b4⟩ := b
  rw [a1] at b1; cases b1
  rw [a2] at b2; cases b2
  rw [a3] at b3; cases b3
  obtain ⟨o, vs, _, _, _, _, _, _, _, e1, _, e3, e4, _⟩ := a4 h X
  obtain ⟨o', vs', _, _, _, _, _, _, _, f1, _, f3, f4, _⟩ := b4 h X
  rw [e1] at f1; cases f1
  rw [e3] at f3; cases f3
  rw [e4] at f4; cases f4
  rfl
theorem law_callR {P : Program} {w : World} {K : PySem.W.Frag} {mg mb : Str → Option Value} {CX : CXT} {k : Nat} {fa a T : Addr} {fd : FuncData} {x : Str} {s₁ : Shared} {vs : List Value} {ns : List Int}
    (KX : K.In s₁.heap) (hns : s₁.heap.Ns mainGlobals mg) (hb : s₁.heap.Ns builtinsNs mb) (hbb : ∀ x : Str, x ≠ "__name__" → mb x = bootBuiltins x) (hlim : s₁.heap.NoLimit) (hg : s₁.gens = #[]) (hbm : BMn s₁.heap mg) (hT : s₁.heap.get? T = some (tabObj #[])) (hKT : K.lookup T = none) (hP : IsTabP K mg T)
    (ha : s₁.heap.get? a = some { cls := .type "list", data := .seq vs.toArray }) (hi : IntsAre vs ns) (hl : ns.length ≤ 63) (hr : Room k callerA)
    (F : ∀ base : Heap, K.In base → base.Ns mainGlobals mg → BMn base mg → FnOk P w K mg base CX k fa fd [x] (spLT K mg)) (hbind : ∀ (s : Shared) (u : Value), BindsTo s fd ⟨[u], []⟩ [(x, u)])
    (hCX : ∀ H e s', CX [] H s₁ (fun _ _ _ => False) e s' → False) :
    codeAny (model P w) callerA (.call (.ref fa) ⟨[.ref a], []⟩) (fun r s' => r = .ok (.ret (.bool true)) ∧ OldK s₁.heap s'.heap ∧ s'.os = s₁.os ∧ AllBare s'.gens) s₁ := by
  have rv := vals_ints hi
  have lenV := hi.length
  have haT : a ≠ T := fun z => by rw [z, hT] at ha; cases ha
  have core : ∀ Bi : Hp, Only Bi → SqL K Bi a (ns.map V.int) → HOk P w Bi s₁.heap → (∀ b, Bi b ≠ none → b = a) → (Bi a ≠ none → K.lookup a = none) →
      codeAny (model P w) callerA (.call (.ref fa) ⟨[.ref a], []⟩) (fun r s' => r = .ok (.ret (.bool true)) ∧ OldK s₁.heap s'.heap ∧ s'.os = s₁.os ∧ AllBare s'.gens) s₁ := by
    intro Bi hO hS hokB hA hK
    have hBT : Bi T = none := by
      cases q : Bi T with
      | none => rfl
      | some u => exact absurd (hA T (by rw [q]; simp)).symm haT
    generalize hHdef : upd Bi T (.tbl #[]) = H
    have HT : H T = some (.tbl #[]) := by rw [← hHdef, upd_same]
    have Hne : ∀ {b}, b ≠ T → H b = Bi b := fun z => by rw [← hHdef, upd_ne z]
    have sm : Same Bi H := fun b o e => by rw [Hne (ne_of_none e hBT)]; exact e
    have hok : HOk P w H s₁.heap := fun b u e => by
      by_cases hb : b = T
      · subst hb; rw [HT] at e; cases e; exact hT
      · rw [Hne hb] at e
        exact (hokB b u e).stay (fun c v _ q => q) (fun c q => sm _ _ q) fun c xs q => sm _ _ q
    have only : ∀ {b : Addr} {o : Obj}, s₁.heap.get? b = some o → (∀ xs n, o.data ≠ .seq xs n) → (∀ vs, o.data ≠ .fields vs) → H b = none := fun {b o} e d1 d2 => by
      by_cases hb : b = T
      · subst hb; rw [hT] at e; cases e; exact absurd rfl (d2 #[])
      · rw [Hne hb]
        cases q : Bi b with
        | none => rfl
        | some u =>
          have e' : b = a := hA b (by rw [q]; simp)
          subst e'
          rw [ha] at e; cases e
          exact absurd rfl (d1 _ _)
    have base_of : ∀ {b : Addr} {o : Obj}, s₁.heap.get? b = some o → H b = none → (hidT s₁.heap H).get? b = some o := fun e n => hidT_get e n
    have nsK : ∀ {b : Addr} {m : Str → Option Value}, s₁.heap.Ns b m → (hidT s₁.heap H).Ns b m := fun {b m} ⟨o, es, ep, e, d, r⟩ => ⟨o, es, ep, base_of e (only e (fun xs n z => by rw [d] at z; cases z) (fun vs z => by rw [d] at z; cases z)), d, r⟩
    have hKb : K.In (hidT s₁.heap H) := fun b o e => base_of (KX b o e) (by
      by_cases hb : b = T
      · subst hb; rw [hKT] at e; cases e
      · rw [Hne hb]
        cases q : Bi b with
        | none => rfl
        | some u =>
          have e' : b = a := hA b (by rw [q]; simp)
          subst e'
          rw [hK (by rw [q]; simp)] at e; cases e)
    have hBb : BMn (hidT s₁.heap H) mg := by
      obtain ⟨bm, ob, b1, b2, b3, b4, b5, b6⟩ := hbm
      exact ⟨bm, ob, b1, b2, base_of b3 (only b3 (fun xs n z => by rw [b6] at z; cases z) (fun vs z => by rw [b6] at z; cases z)), b4, b5, b6⟩
    have hM : Mod K mg (hidT s₁.heap H) := ⟨hKb, nsK hns, ⟨mb, nsK hb, hbb⟩, let ⟨mc, h1, h2⟩ := hlim; ⟨mc, nsK h1, h2⟩⟩
    have e0 : Env0 P w K mg (hidT s₁.heap H) callerA [] s₁ H := ⟨rfl, hM, fun b o e => of_hidT e, Nat.le_of_eq (hidT_size _ _), trivial, fun b hb => absurd (show b ∈ ([] : List Addr) from hb) (by simp), hok, .of_eq hg⟩
    have htb : TB K mg Bi H := fun T' h' => by
      have e' := tabP_inj KX hP h'
      subst e'
      exact ⟨⟨#[], HT, trivial, fun pos cv z => by cases z⟩, hBT⟩
    refine codeAny_mono ((F _ hKb (nsK hns) hBb).run callerA [] s₁ H ⟨[.ref a], []⟩ [.ref a] [.ref a] (fun v _ => v = .bl true) (fun _ _ _ => False) hr e0 (hbind s₁ (.ref a)) (.cons rfl .nil) ⟨a, ns, Bi, rfl, htb, sm, hS, hl, fun _ => rfl⟩) fun r s' h => ?_
    cases r with
    | error e => exact (hCX H e s' h).elim
    | ok fl =>
      cases fl with
      | next => exact False.elim h
      | brk => exact False.elim h
      | cont => exact False.elim h
      | ret u =>
        obtain ⟨v, H', os, bare, un, hok', r', q⟩ := h
        have q' : v = .bl true := q
        subst q'
        obtain rfl : u = Value.bool true := r'
        refine ⟨rfl, ⟨fun b o e => ?_, fun b o e => un.there b o e (by simp)⟩, os, bare⟩
        by_cases hbT : b = T
        · subst hbT
          obtain ⟨more, z⟩ := un.tbls b _ HT
          have z2 : s'.heap.get? b = some { cls := .none, data := .fields (#[] ++ more) } := hok' b _ z
          rw [hT] at e; cases e
          obtain ⟨f, oc, od, fd', osl, c, a1, a2, a3, a4⟩ := hP
          obtain ⟨o, vs, _, _, _, _, _, _, _, e1, e2, e3, e4, _⟩ := a4 _ KX
          exact .inr (.inl ⟨⟨c, o, vs, e1, e2, e3, e4⟩, rfl, #[], more, rfl, z2⟩)
        · refine .inl ?_
          cases q : H b with
          | none => exact un.keep b o e q (by intro z; exact absurd (show b ∈ ([] : List Addr) from z) (by simp)) (by simp)
          | some u =>
            rw [Hne hbT] at q
            rcases hO b with z | ⟨ob, xs, z⟩
            · rw [q] at z; cases z
            · have z2 := un.frzs b ob _ (by rw [Hne hbT]; exact z)
              obtain ⟨e1, _⟩ := hokB b _ z
              obtain ⟨e2, _⟩ := hok' b _ z2
              rw [e] at e1; cases e1
              exact e2
  cases hk : K.lookup a with
  | some o =>
    have e := KX a o hk
    rw [ha] at e
    cases e
    refine core (fun _ => none) (fun _ => .inl rfl) (.inr ⟨_, vs.toArray, _, hk, rfl, rfl, rfl, by rw [List.size_toArray, lenV, sizeLine_eq]; omega, by simpa using rv⟩) (fun b u z => by have z' : (none : Option HO) = some u := z; cases z') (fun b z => absurd rfl z) fun z => absurd rfl z
  | none =>
    refine core (fun b => if b = a then some (.frz { cls := .type "list", data := .seq vs.toArray } (.lst (ns.map V.int))) else none) (fun b => ?_) (.inl (.inr ⟨{ cls := .type "list", data := .seq vs.toArray }, if_pos rfl⟩)) (fun b u z => ?_) (fun b z => ?_) fun _ => hk
    · by_cases hb : b = a
      · exact .inr ⟨_, _, if_pos hb⟩
      · exact .inl (if_neg hb)
    · by_cases hb : b = a
      · have z' := (if_pos hb).symm.trans z
        cases z'
        subst hb
        exact ⟨ha, by rw [List.length_map, sizeLine_eq]; omega, vs, _, rv, ha⟩
      · have z' := (if_neg hb).symm.trans z
        cases z'
    · by_cases hb : b = a
      · exact hb
      · exact absurd (if_neg hb) z
theorem walkR {l : PySem.W.OpenLaw} {k : Nat} {q : Program} {loose : List Str} {XP : (Str → Option Value) → Heap → Prop} {YP : World → Heap → Prop} {d : DefRec} {K : Params → PySem.W.Frag} {T : Addr} (hn : l.most = some 63) (hdf : d.params.defaults = []) (hr : Room k callerA)
    (hY : ∀ (w : World) (h : Heap), YP w h → (K w.params).In h) (hT : ∀ (w : World) (h : Heap), YP w h → h.get? T = some (tabObj #[]))
    (F : ∀ (w : World) (mg : Str → Option Value) (fa : Addr) (h : Heap), (K w.params).In h → h.Ns mainGlobals mg → mg d.name = some (.ref fa) →
      (K w.params).lookup T = none ∧ IsTabP (K w.params) mg T ∧ ∃ fd : FuncData, (∀ (s : Shared) (u : Value), BindsTo s fd ⟨[u], []⟩ [("script", u)]) ∧ ∀ base : Heap, (K w.params).In base → base.Ns mainGlobals mg → BMn base mg → FnOk l.prog w (K w.params) mg base (CX1 l.prog w) k fa fd ["script"] (spLT (K w.params) mg)) :
    PySem.W.WalkO q loose XP YP l.row.toRowW d [] (fun f vs => PySem.call f vs) := by
  refine Att.attach_call hn hdf fun w s₀ s₁ mg mb fa o pm cd doc a vs ns G Y ho hd hcd hmg hobj hints hlen hg => ?_
  have KX := hY w _ Y
  obtain ⟨h1, h2, fd, hb, hF⟩ := F w mg fa _ KX G.T.g hmg
  exact law_callR KX G.T.g G.T.b G.T.builtins G.T.nolimit hg G.T.bmain (hT w _ Y) h1 h2 hobj hints hlen hr hF hb fun _ _ _ z => by
    obtain ⟨_, _, _, _, _, z⟩ := z
    exact z
end L3

namespace L3
open PySem PySem.Spec PyProof.Rows L2 PySem.W
unseal PEd PEf PTd PWd PAd PSd PSsd POd PGd PGsd PId PSx PSsx PTs PCd PCf
section
variable {X : Cx} {G : Gx} {pins : List (Addr × Obj)} {σ : St} {H Hi : Hp} {s : Shared} {ρ : Rho} {i k : Nat} {st : Stmt} {sa : Sv}
end
end L3

namespace L3
open PySem PySem.Spec PyProof.Rows L2 PySem.W
unseal PEd PEf PTd PWd PAd PSd PSsd POd PGd PGsd PId PSx PSsx PTs PCd PCf
/-! ### x.insert(k, e), x a list of one's own -/
section
variable {X : Cx} {G : Gx} {e a : Expr} {f g : Ev} {pos : Pos}
end
end L3

namespace L3
open PySem PySem.Spec PyProof.Rows L2 PySem.W
unseal PEd PEf PTd PWd PAd PSd PSsd POd PGd PGsd PId PSx PSsx PTs PCd PCf
/-! ### a def that tells a tuple: a value, a list as a value, a list of one's own -/
section
variable {X : Cx} {G : Gx} {st : Stmt} {rest : List Stmt} {sa sb : Sv} {u : TS}
noncomputable def tSU (X : Cx) (G : Gx) (sv : Sv) (u : TS) : TS := fun E σ H => tS X G sv { E with nx := u E } σ H
theorem su_last (h : PS X st u) : PSs X [st] (tSU X G sNext u) := PSs.wk (pss_one h) fun E σ H q => by
  obtain ⟨ρ, Hi, R, h⟩ := q
  exact h σ Hi H (Same.refl _) R
theorem su_cons (h1 : PSd X G st sa) (h2 : PSs X rest (tSU X G sb u)) : PSs X (st :: rest) (tSU X G (sSeq sa sb) u) := PSs.wk (pss_cons h1 h2) fun E σ H q => seqFin (E := { E with nx := u E }) q
end
noncomputable def TriP (K : PySem.W.Frag) (H Hi' H' : Hp) (p a : Addr) (t : Tri) : Prop := ∃ v b ys zs, H' p = some (.tup [v, .ref b, .ref a]) ∧ IsD K Hi' v t.1 ∧ SqL K Hi' b ys ∧ IsDs K Hi' ys t.2.1 ∧ H a = none ∧ Hi' a = none ∧ H' a = some (.lst zs) ∧ IsDs K Hi' zs t.2.2
noncomputable def spT (K : PySem.W.Frag) (mg : Str → Option Value) (np : Nat) (kf : List D → Res Tri) : Sp := fun vs H Q _ => vs.length = np ∧ ∃ Bi ds, TB K mg Bi H ∧ Same Bi H ∧ IsDs K Bi vs ds ∧ match kf ds with
  | .ok t => ∀ p a Hi' H', Ext Bi H Hi' H' → TriP K H Hi' H' p a t → Q (.ref p) H'
  | _ => False
structure CanT (P : Program) (w : World) (K : PySem.W.Frag) (mg : Str → Option Value) (base : Heap) (k : Nat) (x : Str) (ps : List Str) (kf : List D → Res Tri) : Prop where
  ex : ∃ f fd, FnOk P w K mg base (CX1 P w) k f fd ps (spT K mg ps.length kf) ∧ Binds K fd ps [] ∧ PySem.W.keepIn K (.ref f) = true ∧ mg x = some (.ref f)
theorem CanT.mono {P : Program} {w : World} {K : PySem.W.Frag} {mg : Str → Option Value} {base : Heap} {j k : Nat} {x : Str} {ps : List Str} {kf : List D → Res Tri} (c : CanT P w K mg base j x ps kf) (h : j ≤ k) : CanT P w K mg base k x ps kf := by
  obtain ⟨f, fd, F, r⟩ := c.ex
  exact ⟨⟨f, fd, F.mono h, r⟩⟩
section
variable {P : Program} {w : World} {K : PySem.W.Frag} {mg : Str → Option Value} {base : Heap} {N ps : List Str} {x : Str} {st : Stmt} {f : Addr} {fd : FuncData} {k i0 i1 i2 : Nat} {sv : Sv}
noncomputable abbrev tTri (i0 i1 i2 : Nat) : TS := tRet (tTup (tCons (tVar i0) (tCons (tVar i1) (tCons (tVar i2) tNil))))
theorem fn_tri (F : Fn K mg x st ps f fd) (S : FnScope N ps (defScope st))
    (h : ∀ (cdv : Value) (A : Around) (outer : List Env) (s : Shared) (H : Hp) (E : XK) (G : Gx), Good (BX P w K mg base N x st f cdv A outer s H E) G k → GoodR (BX P w K mg base N x st f cdv A outer s H E) G → PSs (BX P w K mg base N x st f cdv A outer s H E) (defBody st) (tSU (BX P w K mg base N x st f cdv A outer s H E) G sv (tTri i0 i1 i2))) :
    CanT P w K mg base (k + 1) x ps (kTri ps.length N.length i0 i1 i2 sv) := by
  refine ⟨f, fd, ?_, F.bd, F.kp, F.mg⟩
  obtain ⟨oc, od, kV, doc, pm, an, cdv, ct, osl, rfl, lk, hcd⟩ := F.fn.ex
  refine fn_of lk hcd S (fun vs H Q E h => h.1) fun A outer s H vs Q E hr hsp => ?_
  obtain ⟨hl, Bi, ds, tb, sm, hd, hq⟩ := hsp
  have hg := good_cx (P := P) (w := w) (K := K) (mg := mg) (base := base) (N := N) (outer := outer) (H := H) (Bi := Bi) (E := E) hr tb
  have hlen : ds.length = ps.length := by rw [← hd.length]; exact hl
  refine ⟨_, h cdv A outer s H E _ hg goodR_cx, L3.start N.length ds, Bi, start_rel sm hd, ?_⟩
  unfold kTri at hq
  rw [if_pos hlen] at hq
  cases et : triAt i0 i1 i2 (sv (L3.start N.length ds)) with
  | no => rw [et] at hq; exact hq.elim
  | err c => rw [et] at hq; exact hq.elim
  | ok t =>
    rw [et] at hq
    obtain ⟨ρ, e, e0, e1, e2, hne⟩ := triAt_ok et
    rw [e]
    intro σ1 Hi1 H1 sm1 R
    obtain ⟨v, q0, r0⟩ := R.slot i0 _ e0
    obtain ⟨b, ys, q1, g1, g2, g3, g4⟩ := R.slot i1 _ e1
    obtain ⟨a, zs, q2, f1, f2, f3, f4⟩ := R.slot i2 _ e2
    have hab : a ≠ b := fun z => hne (R.dist i1 i2 a t.2.1 t.2.2 e1 e2 (by rw [q1, z]) q2)
    refine ⟨v, q0, .ref b, q1, .ref a, q2, Nat.le_of_ble_eq_true rfl, fun p hp => ?_⟩
    have x1 : Ext Bi H (upd Hi1 b (.lst ys)) H1 := R.ext.hold g3 g1 g2
    have x2 : Ext Bi H (upd Hi1 b (.lst ys)) (upd H1 p (.tup [v, .ref b, .ref a])) := x1.trans (Ext.newF x1.s hp)
    have sb : Same Hi1 (upd Hi1 b (.lst ys)) := same_new' g2 _
    refine hq p a _ _ x2 ⟨v, b, ys, zs, upd_same, r0.mono sb, SqL.of upd_same, g4.mono sb, f3, by rw [upd_ne hab]; exact f2, by rw [upd_ne (ne_of_none f1 hp)]; exact f1, f4.mono sb⟩
end
section
variable {X : Cx} {G : Gx} {e : Expr} {es : List Expr} {pos p : Pos} {fs : Fv} {k j0 j1 j2 : Nat} {kf : List D → Res Tri} {x : Str} {ps : List Str} {tg : Expr}
theorem s_tri (W : Good X G k) (c : CanT X.prog X.w X.K X.mg X.base k x ps kf) (hkf : ∀ ds c, kf ds ≠ .err c) (hk1 : ∀ ds, kf ds ≠ .no → ds.length = ps.length) (hg : Gl X x) (ha : PAd X G (e :: es) fs)
    (hgt : PG X tg (L2.gTup X.K 3 (L2.gCons (L2.gName j0) (L2.gCons (L2.gName j1) (L2.gCons (L2.gName j2) L2.gNil)))))
    (hdb : (x == ("__debug__" : Str)) = false := by decide) (he : starEach (e :: es) X.env = (false, eval e X.env) :: starEach es X.env := by rfl) (hpl : (backTo pos (starEach es X.env)).any (·.1) = false := by rfl)
    (hj : j0 ≠ j2 ∧ j1 ≠ j2 := by decide) {pa : Pos} (hs : swapsWithSole [tg] (.Call (.Name x p) (e :: es) [] pos) pa.line X.env = pure false := by rfl) (hw : swappedStores [tg] (.Call (.Name x p) (e :: es) [] pos) X.env = pure none := by rfl)
    (h1 : (assignEach [tg] X.env).map (·.2) = [assign tg X.env] := by rfl) :
    PSd X G (.Assign [tg] (.Call (.Name x p) (e :: es) [] pos) pa) (sTri j0 j1 j2 fs kf) := by
  obtain ⟨f, fd, F, b, kp, hm⟩ := c.ex
  refine PS.wk (ps_asg (pe_call F W.room hg hm kp b .nil W.pass ha hdb he hpl) hgt hs hw h1) fun E σ H q => ?_
  obtain ⟨ρ, Hi, R, h⟩ := q
  unfold sTri at h
  cases ef : fs ρ with
  | no => rw [ef] at h; exact h.elim
  | err c => rw [ef] at h; exact h.elim
  | ok ds =>
    rw [ef] at h
    have h' : Fin X G Hi E ((kf ds).bind fun t => .ok (.nx (((ρ.set j0 (.val t.1)).set j1 (.val (.lst t.2.1))).set j2 (.own t.2.2)))) := h
    have hno : kf ds ≠ .no := fun z => by rw [z] at h'; exact h'
    refine ⟨ρ, Hi, R, ?_⟩
    rw [ef]
    intro Hi1 H1 x1 vs rv
    have R1 := R.grow x1
    rw [List.append_nil]
    refine ⟨by rw [rv.length]; exact hk1 ds hno, Hi1, ds, W.tb.ext R1.ext, R1.s, rv, ?_⟩
    cases ek : kf ds with
    | no => exact absurd ek hno
    | err c => exact absurd ek (hkf ds c)
    | ok t =>
      rw [ek] at h'
      intro p' a Hi2 H2 x2 ⟨v, b', ys, zs, t1, t2, t3, t4, t5, t6, t7, t8⟩
      refine ⟨p', _, rfl, SqT.of t1, rfl, v, _, rfl, .ref b', _, rfl, .ref a, _, rfl, rfl, ?_⟩
      have R3 : RelX X G Hi2 H2 (((σ.set j0 (some v)).set j1 (some (.ref b'))).set j2 (some (.ref a))) (((ρ.set j0 (.val t.1)).set j1 (.val (.lst t.2.1))).set j2 (.own t.2.2)) := by
        have Ra := ((R1.setOwn (i := j2) x2 t5 t7 t6 t8).set (i := j0) t2).set (i := j1) (IsD.lst t3 t4)
        rw [List.set_comm _ _ (Ne.symm hj.1), List.set_comm _ _ (Ne.symm hj.2), List.set_comm _ _ (Ne.symm hj.1), List.set_comm _ _ (Ne.symm hj.2)] at Ra
        exact Ra
      exact h' _ Hi2 H2 (x1.i.trans x2.i) R3
end
end L3


theorem PySem.W.Fast.tw5820690836226703881 : True := trivial
theorem PySem.W.Fast.tw13268755363685060166 : True := trivial
theorem PySem.W.Fast.tw18420765499673888007 : True := trivial
theorem PySem.W.Fast.tw3157760133154422380 : True := trivial
theorem PySem.W.Fast.tw637678282312372638 : True := trivial
theorem PySem.W.Fast.tw1350097321748239588 : True := trivial
theorem PySem.W.Fast.tw8445084656916741944 : True := trivial
theorem PySem.W.Fast.tw16454971915287667984 : True := trivial
theorem PySem.W.Fast.tw16294907514124702153 : True := trivial
theorem PySem.W.Fast.tw13103857378684255230 : True := trivial
theorem PySem.W.Fast.tw11302588318480321329 : True := trivial
theorem PySem.W.Fast.tw15370048701782070206 : True := trivial
theorem PySem.W.Fast.tw6482805203377509300 : True := trivial
theorem PySem.W.Fast.tw7895691969866092157 : True := trivial
theorem PySem.W.Fast.tw4533132475770245621 : True := trivial
theorem PySem.W.Fast.tw10040309078794175727 : True := trivial
theorem PySem.W.Fast.tw5624954111341731928 : True := trivial
theorem PySem.W.Fast.tw9436133031909611566 : True := trivial
theorem PySem.W.Fast.tw8990836686244231966 : True := trivial
theorem PySem.W.Fast.tw17484749853779110988 : True := trivial
theorem PySem.W.Fast.tw821136660535274945 : True := trivial
theorem PySem.W.Fast.tw2353009408584937346 : True := trivial
theorem PySem.W.Fast.tw10703538059969665991 : True := trivial
theorem PySem.W.Fast.tw8859660417297772469 : True := trivial
theorem PySem.W.Fast.tw7287698373193909095 : True := trivial
theorem PySem.W.Fast.tw1466323864148937221 : True := trivial
theorem PySem.W.Fast.tw1318847408698555556 : True := trivial
theorem PySem.W.Fast.tw105135456027783394 : True := trivial
theorem PySem.W.Fast.tw12920604288236922980 : True := trivial
theorem PySem.W.Fast.tw14755682125121765615 : True := trivial
theorem PySem.W.Fast.tw12000883279879632323 : True := trivial
theorem PySem.W.Fast.tw10723942446493729424 : True := trivial
theorem PySem.W.Fast.tw10553886969581025343 : True := trivial
theorem PySem.W.Fast.tw8735788336897814857 : True := trivial
theorem PySem.W.Fast.tw8720949783051701976 : True := trivial
theorem PySem.W.Fast.tw4820452689259762708 : True := trivial
theorem PySem.W.Fast.tw416423515408523971 : True := trivial
theorem PySem.W.Fast.tw9378604428839118099 : True := trivial
theorem PySem.W.Fast.tw3520114008990299765 : True := trivial
theorem PySem.W.Fast.tw4734442127969790128 : True := trivial
theorem PySem.W.Fast.tw5055761992106433762 : True := trivial
theorem PySem.W.Fast.tw14722440412783195323 : True := trivial
theorem PySem.W.Fast.tw11454478220677138525 : True := trivial
theorem PySem.W.Fast.tw13389054784339838992 : True := trivial
theorem PySem.W.Fast.tw3846609186713835191 : True := trivial
theorem PySem.W.Fast.tw17904196073118650171 : True := trivial
theorem PySem.W.Fast.tw8738544785982736621 : True := trivial
theorem PySem.W.Fast.tw3248563435514378281 : True := trivial
theorem PySem.W.Fast.tw3852888977512339367 : True := trivial
theorem PySem.W.Fast.tw7449414295417203308 : True := trivial
theorem PySem.W.Fast.tw14569763354020436309 : True := trivial
theorem PySem.W.Fast.tw18335366009752108832 : True := trivial
theorem PySem.W.Fast.tw5181900354863135922 : True := trivial
theorem PySem.W.Fast.tw14598661164104645731 : True := trivial
theorem PySem.W.Fast.tw2916501992315958148 : True := trivial
theorem PySem.W.Fast.tw10520879468033840722 : True := trivial
theorem PySem.W.Fast.tw14473615264603874454 : True := trivial
theorem PySem.W.Fast.tw1717275113495850356 : True := trivial
theorem PySem.W.Fast.tw16025804683456519141 : True := trivial
theorem PySem.W.Fast.tw6963536126949785795 : True := trivial
theorem PySem.W.Fast.tw13157659166102072443 : True := trivial
theorem PySem.W.Fast.tw4740439736546993607 : True := trivial
theorem PySem.W.Fast.tw1068049693785062693 : True := trivial
theorem PySem.W.Fast.tw10813001749367118590 : True := trivial
theorem PySem.W.Fast.tw15042799480090179266 : True := trivial
theorem PySem.W.Fast.tw7872460509035816964 : True := trivial
theorem PySem.W.Fast.tw14855336273773684083 : True := trivial
theorem PySem.W.Fast.tw1528589775715491423 : True := trivial
theorem PySem.W.Fast.tw2298406030855940720 : True := trivial
theorem PySem.W.Fast.tw7609616203467367913 : True := trivial
theorem PySem.W.Fast.tw221096925038436872 : True := trivial
theorem PySem.W.Fast.tw378056099978937249 : True := trivial
theorem PySem.W.Fast.tw2444315937182533220 : True := trivial
theorem PySem.W.Fast.tw14678081481293659933 : True := trivial
theorem PySem.W.Fast.tw5092320177917769599 : True := trivial
theorem PySem.W.Fast.tw1781731649981084361 : True := trivial
theorem PySem.W.Fast.tw4351402086452970046 : True := trivial
theorem PySem.W.Fast.tw14602867243523558728 : True := trivial
theorem PySem.W.Fast.tw5014511035129647034 : True := trivial
theorem PySem.W.Fast.tw12521645159988158762 : True := trivial
theorem PySem.W.Fast.tw12672518822915812591 : True := trivial
theorem PySem.W.Fast.tw15000950936896515466 : True := trivial
theorem PySem.W.Fast.tw5936678047006480049 : True := trivial
theorem PySem.W.Fast.tw2664205462211501827 : True := trivial
theorem PySem.W.Fast.tw168023145097773989 : True := trivial
theorem PySem.W.Fast.tw7654991562547257538 : True := trivial
theorem PySem.W.Fast.tw15152292208580786078 : True := trivial
theorem PySem.W.Fast.tw11942960071861236269 : True := trivial
theorem PySem.W.Fast.tw4920338755463845258 : True := trivial
theorem PySem.W.Fast.tw15093066369215589202 : True := trivial
theorem PySem.W.Fast.tw15872609743906629007 : True := trivial
theorem PySem.W.Fast.tw8719465278385332625 : True := trivial
theorem PySem.W.Fast.tw12138117329846746102 : True := trivial
theorem PySem.W.Fast.tw15249894246830537103 : True := trivial
theorem PySem.W.Fast.tw5029696882396260188 : True := trivial
theorem PySem.W.Fast.tw8709725013617981471 : True := trivial
theorem PySem.W.Fast.tw15557123188339319329 : True := trivial
theorem PySem.W.Fast.tw9928730074400277603 : True := trivial
theorem PySem.W.Fast.tw32777314702868637 : True := trivial
theorem PySem.W.Fast.tw17412636376603671930 : True := trivial
theorem PySem.W.Fast.tw5809129014537815276 : True := trivial
theorem PySem.W.Fast.tw9063593885589882537 : True := trivial
theorem PySem.W.Fast.tw5577853042242378695 : True := trivial
theorem PySem.W.Fast.tw8075124072606327721 : True := trivial
theorem PySem.W.Fast.tw15695281779897838922 : True := trivial
theorem PySem.W.Fast.tw6695963841287830732 : True := trivial
theorem PySem.W.Fast.tw7735741779199011300 : True := trivial
theorem PySem.W.Fast.tw9229002804152643175 : True := trivial
theorem PySem.W.Fast.tw6098974139590743336 : True := trivial
theorem PySem.W.Fast.tw10151276090697318340 : True := trivial
theorem PySem.W.Fast.tw4783724415314047377 : True := trivial
theorem PySem.W.Fast.tw1821581185885882354 : True := trivial
theorem PySem.W.Fast.tw1990660007071518462 : True := trivial
theorem PySem.W.Fast.tw1995196463260560240 : True := trivial
theorem PySem.W.Fast.tw14129924357340644259 : True := trivial
theorem PySem.W.Fast.tw7498562576021428171 : True := trivial
theorem PySem.W.Fast.tw3778917024605646383 : True := trivial
theorem PySem.W.Fast.tw11269581697745332560 : True := trivial
theorem PySem.W.Fast.tw6160989991622945300 : True := trivial
theorem PySem.W.Fast.tw2027563763400143574 : True := trivial
theorem PySem.W.Fast.tw11816458813290391771 : True := trivial
theorem PySem.W.Fast.tw6388276954596869973 : True := trivial
theorem PySem.W.Fast.tw3112239553900152204 : True := trivial
theorem PySem.W.Fast.tw16016194420848888021 : True := trivial
theorem PySem.W.Fast.tw11730538203691498235 : True := trivial
theorem PySem.W.Fast.tw8747911168779881468 : True := trivial
theorem PySem.W.Fast.tw17682887348289131626 : True := trivial
theorem PySem.W.Fast.tw17926530443370008429 : True := trivial
theorem PySem.W.Fast.tw8177955032834041873 : True := trivial
theorem PySem.W.Fast.tw8218239170768711358 : True := trivial
theorem PySem.W.Fast.tw5586065368250313635 : True := trivial
theorem PySem.W.Fast.tw12149753403341067660 : True := trivial
theorem PySem.W.Fast.tw7713408249894648033 : True := trivial
theorem PySem.W.Fast.tw6428214918271723200 : True := trivial
theorem PySem.W.Fast.tw746065890889245514 : True := trivial
theorem PySem.W.Fast.tw17386059037816024470 : True := trivial
theorem PySem.W.Fast.tw3373424498236106760 : True := trivial
theorem PySem.W.Fast.tw3746547307376634565 : True := trivial
theorem PySem.W.Fast.tw14236811269882208010 : True := trivial
theorem PySem.W.Fast.tw11690824238005406304 : True := trivial
theorem PySem.W.Fast.tw3656409154466556045 : True := trivial
theorem PySem.W.Fast.tw15525308774757301196 : True := trivial
theorem PySem.W.Fast.tw8072410067364931654 : True := trivial
theorem PySem.W.Fast.tw10567299282211494300 : True := trivial
theorem PySem.W.Fast.tw14191060047751788855 : True := trivial
theorem PySem.W.Fast.tw1541823748985909411 : True := trivial
theorem PySem.W.Fast.tw14242947398376028104 : True := trivial
theorem PySem.W.Fast.tw8058242288803014545 : True := trivial
theorem PySem.W.Fast.tw730540638033272739 : True := trivial
theorem PySem.W.Fast.tw8244219458595693226 : True := trivial
theorem PySem.W.Fast.tw3841589445210075414 : True := trivial
theorem PySem.W.Fast.tw10148457232897373753 : True := trivial
theorem PySem.W.Fast.tw4683621999048816325 : True := trivial
theorem PySem.W.Fast.tw553723133042022423 : True := trivial
theorem PySem.W.Fast.tw12650217804724034089 : True := trivial
theorem PySem.W.Fast.tw5837679793455026504 : True := trivial
theorem PySem.W.Fast.tw6621357545310402551 : True := trivial
theorem PySem.W.Fast.tw3274425941553091246 : True := trivial
theorem PySem.W.Fast.tw12926483244111098235 : True := trivial
theorem PySem.W.Fast.tw8545217735469013906 : True := trivial
theorem PySem.W.Fast.tw3620791609147598250 : True := trivial
theorem PySem.W.Fast.tw3702494892335027527 : True := trivial
theorem PySem.W.Fast.tw5306238961421544770 : True := trivial
theorem PySem.W.Fast.tw14150998747133038367 : True := trivial
theorem PySem.W.Fast.tw17027570279715475232 : True := trivial
theorem PySem.W.Fast.tw8625771059688669069 : True := trivial
theorem PySem.W.Fast.tw7515410746704113990 : True := trivial
theorem PySem.W.Fast.tw14899196048882518484 : True := trivial
theorem PySem.W.Fast.tw7401650103771122137 : True := trivial
theorem PySem.W.Fast.tw13034345142510725977 : True := trivial
theorem PySem.W.Fast.tw2913619554385947415 : True := trivial
theorem PySem.W.Fast.tw7388940184663077530 : True := trivial
theorem PySem.W.Fast.tw7358775101762263569 : True := trivial
theorem PySem.W.Fast.tw17987418469730098760 : True := trivial
theorem PySem.W.Fast.tw14331487559991313327 : True := trivial
theorem PySem.W.Fast.tw16641021541538952186 : True := trivial
theorem PySem.W.Fast.tw446424688353949015 : True := trivial
theorem PySem.W.Fast.tw867880935225206845 : True := trivial
theorem PySem.W.Fast.tw1409465963581444558 : True := trivial
theorem PySem.W.Fast.tw8816098789791200493 : True := trivial
theorem PySem.W.Fast.tw9518926230188911883 : True := trivial
theorem PySem.W.Fast.tw10101221249082114542 : True := trivial
theorem PySem.W.Fast.tw1088311106976735763 : True := trivial
theorem PySem.W.Fast.tw13016649293878266041 : True := trivial
theorem PySem.W.Fast.tw9042163778287685370 : True := trivial
theorem PySem.W.Fast.tw10939846820064319876 : True := trivial
theorem PySem.W.Fast.tw1783656677700551773 : True := trivial
theorem PySem.W.Fast.tw14612813747393316932 : True := trivial
theorem PySem.W.Fast.tw9995113053954454961 : True := trivial
theorem PySem.W.Fast.tw4825436220710450701 : True := trivial
theorem PySem.W.Fast.tw10170590905771753761 : True := trivial
theorem PySem.W.Fast.tw12765226893811821632 : True := trivial
theorem PySem.W.Fast.tw11222389252465083052 : True := trivial
theorem PySem.W.Fast.tw15093967701723494425 : True := trivial
theorem PySem.W.Fast.tw17048516746682144618 : True := trivial
theorem PySem.W.Fast.tw14701168082342272119 : True := trivial
theorem PySem.W.Fast.tw594237858238200166 : True := trivial
theorem PySem.W.Fast.tw16745165655700079098 : True := trivial
theorem PySem.W.Fast.tw6913172074373479407 : True := trivial
theorem PySem.W.Fast.tw15986237459934522422 : True := trivial
theorem PySem.W.Fast.tw10571030159471075894 : True := trivial
theorem PySem.W.Fast.tw4025555702780367205 : True := trivial
theorem PySem.W.Fast.tw18332951328389985031 : True := trivial
theorem PySem.W.Fast.tw17891440824035711870 : True := trivial
theorem PySem.W.Fast.tw8222519418881346126 : True := trivial
theorem PySem.W.Fast.tw5614012997691408052 : True := trivial
theorem PySem.W.Fast.tw10047448741547484045 : True := trivial
theorem PySem.W.Fast.tw11969596238914597629 : True := trivial
theorem PySem.W.Fast.tw4029940764580599331 : True := trivial
theorem PySem.W.Fast.tw3366581503720152111 : True := trivial
theorem PySem.W.Fast.tw10758728918056572628 : True := trivial
theorem PySem.W.Fast.tw14845492016790683054 : True := trivial
theorem PySem.W.Fast.tw12884708834582130973 : True := trivial
theorem PySem.W.Fast.tw16640628691408551069 : True := trivial
theorem PySem.W.Fast.tw7312025105200784519 : True := trivial
theorem PySem.W.Fast.tw11424253442154978586 : True := trivial
theorem PySem.W.Fast.tw5828331195982127455 : True := trivial
theorem PySem.W.Fast.tw13177633991066146560 : True := trivial
theorem PySem.W.Fast.tw9989748700584638374 : True := trivial
theorem PySem.W.Fast.tw17146438893088851416 : True := trivial
theorem PySem.W.Fast.tw14604499308785903714 : True := trivial
theorem PySem.W.Fast.tw5261272806145303038 : True := trivial
theorem PySem.W.Fast.tw898844015303017823 : True := trivial
theorem PySem.W.Fast.tw3349746293490125690 : True := trivial
theorem PySem.W.Fast.tw17961036483496376142 : True := trivial
theorem PySem.W.Fast.tw8799966506051651233 : True := trivial
theorem PySem.W.Fast.tw6187396670889673397 : True := trivial
theorem PySem.W.Fast.tw4960087870997334057 : True := trivial
theorem PySem.W.Fast.tw5960773862057414729 : True := trivial
theorem PySem.W.Fast.tw7681551014809076462 : True := trivial
theorem PySem.W.Fast.tw5058763898694244953 : True := trivial
theorem PySem.W.Fast.tw2952291839607558569 : True := trivial
theorem PySem.W.Fast.tw5963539888302598627 : True := trivial
theorem PySem.W.Fast.tw2588614958738338343 : True := trivial
theorem PySem.W.Fast.tw16215311664028472876 : True := trivial
theorem PySem.W.Fast.tw10150828486123415893 : True := trivial
theorem PySem.W.Fast.tw16265031168102207929 : True := trivial
theorem PySem.W.Fast.tw12352409881914766298 : True := trivial
theorem PySem.W.Fast.tw14493432974868170415 : True := trivial
theorem PySem.W.Fast.tw15447038764816707644 : True := trivial
theorem PySem.W.Fast.tw8377449625975583926 : True := trivial
theorem PySem.W.Fast.tw10527783996587565358 : True := trivial
theorem PySem.W.Fast.tw2829686339072085166 : True := trivial
theorem PySem.W.Fast.tw8048427105313598630 : True := trivial
theorem PySem.W.Fast.tw15369262599461742441 : True := trivial
theorem PySem.W.Fast.tw1735319174345669958 : True := trivial
theorem PySem.W.Fast.tw13510521183066453495 : True := trivial
theorem PySem.W.Fast.tw15280974014380691160 : True := trivial
theorem PySem.W.Fast.tw17092242108270035986 : True := trivial
theorem PySem.W.Fast.tw1712159438460870079 : True := trivial
theorem PySem.W.Fast.tw13851796668970626415 : True := trivial
theorem PySem.W.Fast.tw430672152015520160 : True := trivial
theorem PySem.W.Fast.tw17630690808990477623 : True := trivial
theorem PySem.W.Fast.tw7759593232818672698 : True := trivial
theorem PySem.W.Fast.tw15772207992561453460 : True := trivial
theorem PySem.W.Fast.tw2472669498099825994 : True := trivial
theorem PySem.W.Fast.tw2801767437459609838 : True := trivial
theorem PySem.W.Fast.tw11199564949961783492 : True := trivial
theorem PySem.W.Fast.tw8778101424425625871 : True := trivial
theorem PySem.W.Fast.tw13216928298120123637 : True := trivial
theorem PySem.W.Fast.tw12411869672893477244 : True := trivial
theorem PySem.W.Fast.tw4219320820681208930 : True := trivial
theorem PySem.W.Fast.tw2344425871802626941 : True := trivial
theorem PySem.W.Fast.tw4267974860170687667 : True := trivial
theorem PySem.W.Fast.tw7515472208700335643 : True := trivial
theorem PySem.W.Fast.tw17733925641346718119 : True := trivial
theorem PySem.W.Fast.tw13405528816824126169 : True := trivial
theorem PySem.W.Fast.tw2835894675087169218 : True := trivial
theorem PySem.W.Fast.tw12267959707991491968 : True := trivial
theorem PySem.W.Fast.tw76022194697837265 : True := trivial
theorem PySem.W.Fast.tw14870030341385824271 : True := trivial
theorem PySem.W.Fast.tw5677921573718522649 : True := trivial
theorem PySem.W.Fast.tw6049271959282765372 : True := trivial
theorem PySem.W.Fast.tw17686702775336863308 : True := trivial
theorem PySem.W.Fast.tw4613085703929758979 : True := trivial
theorem PySem.W.Fast.tw17362043801092910683 : True := trivial
theorem PySem.W.Fast.tw14846900730052062234 : True := trivial
theorem PySem.W.Fast.tw15574828597439554537 : True := trivial
theorem PySem.W.Fast.tw15523371021621935624 : True := trivial
theorem PySem.W.Fast.tw16398556628327222691 : True := trivial
theorem PySem.W.Fast.tw4774935249426968822 : True := trivial
theorem PySem.W.Fast.tw13598172408324865887 : True := trivial
theorem PySem.W.Fast.tw11338688238758724315 : True := trivial
theorem PySem.W.Fast.tw10162066987844940111 : True := trivial
theorem PySem.W.Fast.tw7454307893447287624 : True := trivial
theorem PySem.W.Fast.tw4290192463645385263 : True := trivial
theorem PySem.W.Fast.tw8015247800252352651 : True := trivial
theorem PySem.W.Fast.tw10568958305999671923 : True := trivial
theorem PySem.W.Fast.tw9794713243620197216 : True := trivial
theorem PySem.W.Fast.tw15514762291309540690 : True := trivial
theorem PySem.W.Fast.tw4111031065226320104 : True := trivial
theorem PySem.W.Fast.tw1022483121421590306 : True := trivial
theorem PySem.W.Fast.tw13403838239637610617 : True := trivial
theorem PySem.W.Fast.tw16097378225681201815 : True := trivial
theorem PySem.W.Fast.tw17549750618754690345 : True := trivial
theorem PySem.W.Fast.tw2208368538103212291 : True := trivial
theorem PySem.W.Fast.tw4700370319341203254 : True := trivial
theorem PySem.W.Fast.tw13121073655840649518 : True := trivial
theorem PySem.W.Fast.tw2689859953012866625 : True := trivial
theorem PySem.W.Fast.tw12719817595877282262 : True := trivial
theorem PySem.W.Fast.tw9235824923863320134 : True := trivial
theorem PySem.W.Fast.tw12362577959882756068 : True := trivial
theorem PySem.W.Fast.tw15649282984244418182 : True := trivial
theorem PySem.W.Fast.tw16980284221574362473 : True := trivial
theorem PySem.W.Fast.tw4079544070948364690 : True := trivial
theorem PySem.W.Fast.tw6632886864788173258 : True := trivial
theorem PySem.W.Fast.tw8961065643697130182 : True := trivial
theorem PySem.W.Fast.tw4927842267746080334 : True := trivial
theorem PySem.W.Fast.tw9942200471293430993 : True := trivial
theorem PySem.W.Fast.tw15911297600038047032 : True := trivial
theorem PySem.W.Fast.tw4277892849512214423 : True := trivial
theorem PySem.W.Fast.tw3834578306979079542 : True := trivial
theorem PySem.W.Fast.tw1561690081183911031 : True := trivial
theorem PySem.W.Fast.tw13133563832604419259 : True := trivial
theorem PySem.W.Fast.tw17484140907097609321 : True := trivial
theorem PySem.W.Fast.tw2686947584586066033 : True := trivial
namespace Lw
open L3 PySem
noncomputable def tbT : List Str := []
noncomputable def ancT : List (Str × List Str) := []
noncomputable def d_NOUGHT : D := (.tup [(.int 0), (.int 1)])
noncomputable def t_CONTRARY : List (Str × Str) := [("row", "back"), ("back", "row"), ("even", "lack"), ("lack", "even"), ("part", "part"), ("half", "half")]
noncomputable def d_WEIGHTED : D := (.tup [(.str "even"), (.str "lack")])
noncomputable def d_HALF : D := (.tup [(.int 1), (.int 2)])
noncomputable abbrev b_common_divisor_6 : Sv := (sSet 1 (eVar 2))
noncomputable abbrev b_common_divisor_5 : Sv := (sSeq (sSet 0 (eVar 1)) b_common_divisor_6)
noncomputable abbrev b_common_divisor_4 : Sv := (sSeq (sSet 2 (eOp oMod (eVar 0) (eVar 1))) b_common_divisor_5)
noncomputable abbrev b_common_divisor_7 : Sv := (sRet (eVar 0))
noncomputable abbrev b_common_divisor_3 : Sv := (sSeq (sWhile (tVal (eOp oNe (eVar 1) (eC (.int 0)))) b_common_divisor_4) b_common_divisor_7)
noncomputable abbrev b_common_divisor_2 : Sv := (sSeq (sSet 1 (eB bAbs (aCons (eVar 1) aNil))) b_common_divisor_3)
noncomputable def m_common_divisor : Mir := fn 2 3 (sSeq (sSet 0 (eB bAbs (aCons (eVar 0) aNil))) b_common_divisor_2)
noncomputable def m_whole : Mir := fn 1 1 (sRet (eTup (aCons (eVar 0) (aCons (eC (.int 1)) aNil))))
noncomputable def m_less : Mir := fn 2 2 (sRet (eOp oLt (eOp oMul (eOp oIx (eVar 0) (eC (.int 0))) (eOp oIx (eVar 1) (eC (.int 1)))) (eOp oMul (eOp oIx (eVar 1) (eC (.int 0))) (eOp oIx (eVar 0) (eC (.int 1))))))
noncomputable abbrev b_ranked_3 : Sv := (sSet 1 (eOp oMul (eVar 1) (eOp oIx (eVar 2) (eC (.int 1)))))
noncomputable abbrev r1_ranked : Sv := (sSet 1 (eC (.int 1)))
noncomputable abbrev r2_ranked : Sv := (sFor (iSeq (eVar 0)) (gName 2) b_ranked_3)
noncomputable def k_ranked : List D → Res (List Int) := kRank r1_ranked r2_ranked
noncomputable def m_refuse_way : Mir := fn 1 1 (sIf (tVal (eUn (oTabNot t_CONTRARY) (eVar 0))) (sRaise "BadWay" (aCons (eC (.str "no such way")) aNil)) sNext)
noncomputable abbrev b_refuse_claims_4 : Sv := (sIf (tVal (eOp oLt (eVar 1) (eC (.int 0)))) (sRaise "BadClaim" (aCons (eC (.str "a claim is below nought")) aNil)) sNext)
noncomputable abbrev b_refuse_claims_3 : Sv := (sFor (iSeq (eVar 0)) (gName 1) b_refuse_claims_4)
noncomputable def m_refuse_claims : Mir := fn 1 2 (sSeq (sIf (tVal (eOp oEq (eB bLen (aCons (eVar 0) aNil)) (eC (.int 0)))) (sRaise "BadClaim" (aCons (eC (.str "there is no claim")) aNil)) sNext) b_refuse_claims_3)
noncomputable abbrev b_refuse_weights_5 : Sv := (sIf (tOrB (tVal (eOp oLt (eVar 4) (eC (.int 1)))) (tVal (eOp oGt (eVar 4) (eOp oPow (eC (.int 10)) (eC (.int 6)))))) (sRaise "BadWeights" (aCons (eC (.str "a weight is not from 1 to 10 ** 6")) aNil)) sNext)
noncomputable abbrev b_refuse_weights_4 : Sv := (sFor (iSeq (eVar 1)) (gName 4) b_refuse_weights_5)
noncomputable abbrev b_refuse_weights_2 : Sv := (sSeq (sIf (tVal (eOp oNe (eB bLen (aCons (eVar 1) aNil)) (eVar 3))) (sRaise "BadWeights" (aCons (eC (.str "more or fewer weights than are due")) aNil)) sNext) b_refuse_weights_4)
noncomputable def m_refuse_weights : Mir := fn 3 5 (sSeq (sSet 3 (eIf (tVal (eOp oIn (eVar 0) (eC d_WEIGHTED))) (eVar 2) (eC (.int 0)))) b_refuse_weights_2)
noncomputable abbrev b_law_cell_at_3 : Sv := (sRet (eC (.int 0)))
noncomputable def m_law_cell_at : Mir := fn 2 2 (sSeq (sIf (tVal (eOp oLt (eVar 1) (eB bLen (aCons (eVar 0) aNil)))) (sRet (eOp oIx (eVar 0) (eVar 1))) sNext) b_law_cell_at_3)
noncomputable abbrev b_law_fraction_6 : Sv := (sSet 3 (eVar 4))
noncomputable abbrev b_law_fraction_5 : Sv := (sSeq (sSet 2 (eVar 3)) b_law_fraction_6)
noncomputable abbrev b_law_fraction_4 : Sv := (sSeq (sSet 4 (eOp oMod (eVar 2) (eVar 3))) b_law_fraction_5)
noncomputable abbrev b_law_fraction_9 : Sv := (sRet (eTup (aCons (eOp oDiv (eVar 0) (eVar 2)) (aCons (eOp oDiv (eVar 1) (eVar 2)) aNil))))
noncomputable abbrev b_law_fraction_7 : Sv := (sSeq (sIf (tVal (eOp oEq (eVar 2) (eC (.int 0)))) (sRet (eTup (aCons (eC (.int 0)) (aCons (eC (.int 1)) aNil)))) sNext) b_law_fraction_9)
noncomputable abbrev b_law_fraction_3 : Sv := (sSeq (sWhile (tVal (eOp oGt (eVar 3) (eC (.int 0)))) b_law_fraction_4) b_law_fraction_7)
noncomputable abbrev b_law_fraction_2 : Sv := (sSeq (sSet 3 (eVar 1)) b_law_fraction_3)
noncomputable def m_law_fraction : Mir := fn 2 5 (sSeq (sSet 2 (eB bAbs (aCons (eVar 0) aNil))) b_law_fraction_2)
noncomputable abbrev b_law_sum_is_5 : Sv := (sSet 3 (eOp oMul (eVar 3) (eOp oIx (eVar 4) (eC (.int 1)))))
noncomputable abbrev b_law_sum_is_4 : Sv := (sSeq (sSet 2 (eOp oAdd (eOp oMul (eVar 2) (eOp oIx (eVar 4) (eC (.int 1)))) (eOp oMul (eOp oIx (eVar 4) (eC (.int 0))) (eVar 3)))) b_law_sum_is_5)
noncomputable abbrev b_law_sum_is_6 : Sv := (sRet (eOp oEq (eOp oMul (eVar 2) (eOp oIx (eVar 1) (eC (.int 1)))) (eOp oMul (eOp oIx (eVar 1) (eC (.int 0))) (eVar 3))))
noncomputable abbrev b_law_sum_is_3 : Sv := (sSeq (sFor (iSeq (eVar 0)) (gName 4) b_law_sum_is_4) b_law_sum_is_6)
noncomputable abbrev b_law_sum_is_2 : Sv := (sSeq (sSet 3 (eC (.int 1))) b_law_sum_is_3)
noncomputable def m_law_sum_is : Mir := fn 2 5 (sSeq (sSet 2 (eC (.int 0))) b_law_sum_is_2)
noncomputable abbrev b_made_6 : Sv := (sRet (eTup (aCons (eOp oDiv (eVar 0) (eVar 2)) (aCons (eOp oDiv (eVar 1) (eVar 2)) aNil))))
noncomputable abbrev b_made_4 : Sv := (sSeq (sIf (tVal (eOp oLt (eVar 1) (eC (.int 0)))) (sSet 2 (eUn oNeg (eVar 2))) sNext) b_made_6)
noncomputable abbrev b_made_3 : Sv := (sSeq (sSet 2 (eCall m_common_divisor (aCons (eVar 0) (aCons (eVar 1) aNil)))) b_made_4)
noncomputable def m_made : Mir := fn 2 3 (sSeq (sIf (tVal (eOp oEq (eVar 1) (eC (.int 0)))) (sRaise "NoFraction" (aCons (eC (.str "the bottom is nought")) aNil)) sNext) b_made_3)
noncomputable def m_lesser : Mir := fn 2 2 (sRet (eIf (tVal (eCall m_less (aCons (eVar 0) (aCons (eVar 1) aNil)))) (eVar 0) (eVar 1)))
noncomputable def m_is_outside : Mir := fn 2 2 (sRet (eOr (eCall m_less (aCons (eVar 0) (aCons (eC d_NOUGHT) aNil))) (eCall m_less (aCons (eVar 1) (aCons (eVar 0) aNil)))))
noncomputable abbrev b_looked_3 : Sv := (sDrop (eCall m_refuse_weights (aCons (eVar 0) (aCons (eVar 1) (aCons (eB bLen (aCons (eVar 2) aNil)) aNil)))))
noncomputable abbrev b_looked_2 : Sv := (sSeq (sDrop (eCall m_refuse_claims (aCons (eVar 2) aNil))) b_looked_3)
noncomputable def m_looked : Mir := fn 3 3 (sSeq (sDrop (eCall m_refuse_way (aCons (eVar 0) aNil))) b_looked_2)
noncomputable abbrev b_law_drawn_11 : Sv := (sApp 6 (eOp oAdd (eC (.int 1)) (eOp oMod (eOp oDiv (eVar 8) (eC (.int 2))) (eOp oIx (eF (fLst (aCons (eC (.int 4)) (aCons (eOp oPow (eC (.int 10)) (eC (.int 6))) aNil)))) (eOp oMod (eVar 8) (eC (.int 2)))))))
noncomputable abbrev b_law_drawn_9 : Sv := (sIf (tOrB (tVal (eOp oEq (eVar 3) (eC (.str "even")))) (tVal (eOp oEq (eVar 3) (eC (.str "lack"))))) (sSeq (sSet 8 (eOp oMod (eCall m_law_cell_at (aCons (eVar 0) (aCons (eOp oAdd (eOp oAdd (eC (.int 3)) (eVar 4)) (eVar 7)) aNil))) (eOp oPow (eC (.int 10)) (eC (.int 30))))) b_law_drawn_11) sNext)
noncomputable abbrev b_law_drawn_8 : Sv := (sSeq (sApp 5 (eOp oIx (eF (fLst (aCons (eOp oMod (eOp oDiv (eVar 8) (eC (.int 3))) (eC (.int 13))) (aCons (eOp oMod (eOp oDiv (eVar 8) (eC (.int 3))) (eC (.int 13))) (aCons (eOp oMod (eOp oDiv (eVar 8) (eC (.int 3))) (eOp oPow (eC (.int 10)) (eC (.int 30)))) aNil))))) (eOp oMod (eVar 8) (eC (.int 3))))) b_law_drawn_9)
noncomputable abbrev b_law_drawn_7 : Sv := (sSeq (sSet 8 (eOp oMod (eCall m_law_cell_at (aCons (eVar 0) (aCons (eOp oAdd (eC (.int 3)) (eVar 7)) aNil))) (eOp oPow (eC (.int 10)) (eC (.int 40))))) b_law_drawn_8)
noncomputable abbrev b_law_drawn_6 : Sv := (sSeq (sFor (iRng1 (aCons (eVar 4) aNil)) (gName 7) b_law_drawn_7) sNext)
noncomputable abbrev b_law_drawn_5 : Sv := (sSeq (sOwn 6 (fLst aNil)) b_law_drawn_6)
noncomputable abbrev b_law_drawn_4 : Sv := (sSeq (sOwn 5 (fLst aNil)) b_law_drawn_5)
noncomputable abbrev b_law_drawn_3 : Sv := (sSeq (sSet 4 (eOp oAdd (eC (.int 1)) (eOp oMod (eOp oDiv (eVar 2) (eC (.int 6))) (eVar 1)))) b_law_drawn_4)
noncomputable abbrev b_law_drawn_2 : Sv := (sSeq (sSet 3 (eOp oIx (eF (fLst (aCons (eC (.str "row")) (aCons (eC (.str "back")) (aCons (eC (.str "even")) (aCons (eC (.str "lack")) (aCons (eC (.str "part")) (aCons (eC (.str "half")) aNil)))))))) (eOp oMod (eVar 2) (eC (.int 6))))) b_law_drawn_3)
noncomputable abbrev b_law_drawn_1 : Sv := (sSeq (sSet 2 (eOp oMod (eCall m_law_cell_at (aCons (eVar 0) (aCons (eC (.int 0)) aNil))) (eOp oPow (eC (.int 10)) (eC (.int 30))))) b_law_drawn_2)
noncomputable def k_law_drawn : List D → Res Tri := (kTri 2 9 3 6 5 b_law_drawn_1)
noncomputable abbrev b_law_caught_3 : Sv := (sRet (eCall m_law_fraction (aCons (eOp oMod (eOp oDiv (eVar 0) (eC (.int 4))) (eOp oAdd (eOp oMul (eVar 1) (eVar 2)) (eC (.int 1)))) (aCons (eVar 2) aNil))))
noncomputable abbrev b_law_caught_2 : Sv := (sSeq (sSet 2 (eOp oIx (eF (fLst (aCons (eC (.int 1)) (aCons (eC (.int 2)) (aCons (eOp oAdd (eC (.int 1)) (eOp oMod (eOp oDiv (eVar 0) (eC (.int 4))) (eC (.int 12)))) (aCons (eOp oAdd (eC (.int 1)) (eOp oMod (eOp oDiv (eVar 0) (eC (.int 4))) (eOp oPow (eC (.int 10)) (eC (.int 9))))) aNil)))))) (eOp oMod (eVar 0) (eC (.int 4))))) b_law_caught_3)
noncomputable def m_law_caught : Mir := fn 2 3 (sSeq (sSet 0 (eOp oMod (eVar 0) (eOp oPow (eC (.int 10)) (eC (.int 40))))) b_law_caught_2)
noncomputable abbrev b_law_is_fraction_4 : Sv := (sIf (tOrB (tNotB (tVal (eIsT "int" (eVar 1)))) (tVal (eIsT "bool" (eVar 1)))) (sRet (eC (.bl false))) sNext)
noncomputable abbrev b_law_is_fraction_6 : Sv := (sRet (eAnd (eOp oGt (eOp oIx (eVar 0) (eC (.int 1))) (eC (.int 0))) (eOp oEq (eCall m_law_fraction (aCons (eOp oIx (eVar 0) (eC (.int 0))) (aCons (eOp oIx (eVar 0) (eC (.int 1))) aNil))) (eVar 0))))
noncomputable abbrev b_law_is_fraction_3 : Sv := (sSeq (sFor (iSeq (eVar 0)) (gName 1) b_law_is_fraction_4) b_law_is_fraction_6)
noncomputable def m_law_is_fraction : Mir := fn 1 2 (sSeq (sIf (tOrB (tNotB (tVal (eIsT "tuple" (eVar 0)))) (tVal (eOp oNe (eB bLen (aCons (eVar 0) aNil)) (eC (.int 2))))) (sRet (eC (.bl false))) sNext) b_law_is_fraction_3)
noncomputable def m_law_added : Mir := fn 2 2 (sRet (eCall m_law_fraction (aCons (eOp oAdd (eOp oMul (eOp oIx (eVar 0) (eC (.int 0))) (eOp oIx (eVar 1) (eC (.int 1)))) (eOp oMul (eOp oIx (eVar 1) (eC (.int 0))) (eOp oIx (eVar 0) (eC (.int 1))))) (aCons (eOp oMul (eOp oIx (eVar 0) (eC (.int 1))) (eOp oIx (eVar 1) (eC (.int 1)))) aNil))))
noncomputable def m_plus : Mir := fn 2 2 (sRet (eCall m_made (aCons (eOp oAdd (eOp oMul (eOp oIx (eVar 0) (eC (.int 0))) (eOp oIx (eVar 1) (eC (.int 1)))) (eOp oMul (eOp oIx (eVar 1) (eC (.int 0))) (eOp oIx (eVar 0) (eC (.int 1))))) (aCons (eOp oMul (eOp oIx (eVar 0) (eC (.int 1))) (eOp oIx (eVar 1) (eC (.int 1)))) aNil))))
noncomputable def m_minus : Mir := fn 2 2 (sRet (eCall m_made (aCons (eOp oSub (eOp oMul (eOp oIx (eVar 0) (eC (.int 0))) (eOp oIx (eVar 1) (eC (.int 1)))) (eOp oMul (eOp oIx (eVar 1) (eC (.int 0))) (eOp oIx (eVar 0) (eC (.int 1))))) (aCons (eOp oMul (eOp oIx (eVar 0) (eC (.int 1))) (eOp oIx (eVar 1) (eC (.int 1)))) aNil))))
noncomputable def m_times : Mir := fn 2 2 (sRet (eCall m_made (aCons (eOp oMul (eOp oIx (eVar 0) (eC (.int 0))) (eOp oIx (eVar 1) (eC (.int 0)))) (aCons (eOp oMul (eOp oIx (eVar 0) (eC (.int 1))) (eOp oIx (eVar 1) (eC (.int 1)))) aNil))))
noncomputable def m_over : Mir := fn 2 2 (sRet (eCall m_made (aCons (eOp oMul (eOp oIx (eVar 0) (eC (.int 0))) (eOp oIx (eVar 1) (eC (.int 1)))) (aCons (eOp oMul (eOp oIx (eVar 0) (eC (.int 1))) (eOp oIx (eVar 1) (eC (.int 0)))) aNil))))
noncomputable def m_refuse_outside : Mir := fn 2 2 (sIf (tVal (eCall m_is_outside (aCons (eVar 0) (aCons (eVar 1) aNil)))) (sRaise "Outside" (aCons (eC (.str "below nought, or more than there can be")) aNil)) sNext)
noncomputable def m_levels_of : Mir := fn 2 2 (sRetF (fComp2 (iZip (aCons (eVar 1) (aCons (eVar 0) aNil))) (eCall m_made (aCons (eVar 2) (aCons (eVar 3) aNil)))))
noncomputable abbrev b_law_dealing_4 : Sv := (sIf (tOrB (tNotB (tVal (eCall m_law_is_fraction (aCons (eVar 3) aNil)))) (tOrB (tVal (eOp oLt (eOp oIx (eVar 3) (eC (.int 0))) (eC (.int 0)))) (tVal (eOp oGt (eOp oIx (eVar 3) (eC (.int 0))) (eOp oMul (eVar 4) (eOp oIx (eVar 3) (eC (.int 1)))))))) (sRet (eC (.bl false))) sNext)
noncomputable abbrev b_law_dealing_6 : Sv := (sRet (eCall m_law_sum_is (aCons (eVar 0) (aCons (eVar 2) aNil))))
noncomputable abbrev b_law_dealing_3 : Sv := (sSeq (sFor (iZip (aCons (eVar 0) (aCons (eVar 1) aNil))) (gTup (gCons (gName 3) (gCons (gName 4) gNil))) b_law_dealing_4) b_law_dealing_6)
noncomputable def m_law_dealing : Mir := fn 3 5 (sSeq (sIf (tOrB (tNotB (tVal (eIsT "list" (eVar 0)))) (tVal (eOp oNe (eB bLen (aCons (eVar 0) aNil)) (eB bLen (aCons (eVar 1) aNil))))) (sRet (eC (.bl false))) sNext) b_law_dealing_3)
noncomputable abbrev b_law_moved_13 : Sv := (sRetOwn 8)
noncomputable abbrev b_law_moved_12 : Sv := (sSeq (sPut 8 (eVar 4) (eCall m_law_added (aCons (eOp oIx (eVar 1) (eVar 4)) (aCons (eVar 7) aNil)))) b_law_moved_13)
noncomputable abbrev b_law_moved_11 : Sv := (sSeq (sPut 8 (eVar 3) (eCall m_law_added (aCons (eOp oIx (eVar 1) (eVar 3)) (aCons (eTup (aCons (eOp oSub (eC (.int 0)) (eOp oIx (eVar 7) (eC (.int 0)))) (aCons (eOp oIx (eVar 7) (eC (.int 1))) aNil))) aNil)))) b_law_moved_12)
noncomputable abbrev b_law_moved_10 : Sv := (sSeq (sOwn 8 (fList (aCons (eVar 1) aNil))) b_law_moved_11)
noncomputable abbrev b_law_moved_9 : Sv := (sSeq (sSet 7 (eCall m_law_fraction (aCons (eOp oMul (eOp oIx (eVar 7) (eC (.int 0))) (eOp oIx (eVar 5) (eC (.int 0)))) (aCons (eOp oMul (eOp oIx (eVar 7) (eC (.int 1))) (eOp oIx (eVar 5) (eC (.int 1)))) aNil)))) b_law_moved_10)
noncomputable abbrev b_law_moved_7 : Sv := (sSeq (sIf (tVal (eOp oLt (eOp oMul (eOp oIx (eVar 6) (eC (.int 0))) (eOp oIx (eVar 7) (eC (.int 1)))) (eOp oMul (eOp oIx (eVar 7) (eC (.int 0))) (eOp oIx (eVar 6) (eC (.int 1)))))) (sSet 7 (eVar 6)) sNext) b_law_moved_9)
noncomputable abbrev b_law_moved_6 : Sv := (sSeq (sSet 7 (eOp oIx (eVar 1) (eVar 3))) b_law_moved_7)
noncomputable abbrev b_law_moved_5 : Sv := (sSeq (sSet 6 (eCall m_law_added (aCons (eTup (aCons (eOp oIx (eVar 0) (eVar 4)) (aCons (eC (.int 1)) aNil))) (aCons (eTup (aCons (eOp oSub (eC (.int 0)) (eOp oIx (eOp oIx (eVar 1) (eVar 4)) (eC (.int 0)))) (aCons (eOp oIx (eOp oIx (eVar 1) (eVar 4)) (eC (.int 1))) aNil))) aNil)))) b_law_moved_6)
noncomputable abbrev b_law_moved_4 : Sv := (sSeq (sSet 5 (eOp oIx (eF (fLst (aCons (eTup (aCons (eC (.int 1)) (aCons (eC (.int 1)) aNil))) (aCons (eTup (aCons (eC (.int 1)) (aCons (eC (.int 2)) aNil))) (aCons (eCall m_law_fraction (aCons (eOp oAdd (eC (.int 1)) (eOp oMod (eOp oDiv (eVar 2) (eC (.int 400))) (eC (.int 11)))) (aCons (eC (.int 12)) aNil))) aNil))))) (eOp oMod (eOp oDiv (eVar 2) (eC (.int 132))) (eC (.int 3))))) b_law_moved_5)
noncomputable abbrev b_law_moved_3 : Sv := (sSeq (sSet 4 (eOp oMod (eOp oAdd (eOp oAdd (eVar 3) (eC (.int 1))) (eOp oMod (eOp oDiv (eVar 2) (eC (.int 12))) (eOp oSub (eB bLen (aCons (eVar 0) aNil)) (eC (.int 1))))) (eB bLen (aCons (eVar 0) aNil)))) b_law_moved_4)
noncomputable abbrev b_law_moved_2 : Sv := (sSeq (sSet 3 (eOp oMod (eVar 2) (eB bLen (aCons (eVar 0) aNil)))) b_law_moved_3)
noncomputable def m_law_moved : Mir := fn 3 9 (sSeq (sSet 2 (eOp oMod (eVar 2) (eOp oPow (eC (.int 10)) (eC (.int 40))))) b_law_moved_2)
noncomputable abbrev b_row_dealt_6 : Sv := (sSet 2 (eCall m_minus (aCons (eVar 2) (aCons (eVar 5) aNil))))
noncomputable abbrev b_row_dealt_5 : Sv := (sSeq (sApp 3 (eVar 5)) b_row_dealt_6)
noncomputable abbrev b_row_dealt_4 : Sv := (sSeq (sSet 5 (eCall m_lesser (aCons (eVar 2) (aCons (eCall m_whole (aCons (eVar 4) aNil)) aNil)))) b_row_dealt_5)
noncomputable abbrev b_row_dealt_7 : Sv := (sRetOwn 3)
noncomputable abbrev b_row_dealt_3 : Sv := (sSeq (sFor (iSeq (eVar 0)) (gName 4) b_row_dealt_4) b_row_dealt_7)
noncomputable abbrev b_row_dealt_2 : Sv := (sSeq (sOwn 3 (fLst aNil)) b_row_dealt_3)
noncomputable def m_row_dealt : Mir := fn 2 6 (sSeq (sSet 2 (eVar 1)) b_row_dealt_2)
noncomputable abbrev b_even_dealt_8 : Sv := (sAug 4 oSub (eOp oIx (eVar 0) (eVar 6)))
noncomputable abbrev b_even_dealt_7 : Sv := (sSeq (sSet 3 (eFrz (eCall m_minus (aCons (eVar 3) (aCons (eOp oIx (eVar 5) (eVar 6)) aNil))))) b_even_dealt_8)
noncomputable abbrev b_even_dealt_6 : Sv := (sSeq (sPut 5 (eVar 6) (eCall m_lesser (aCons (eVar 7) (aCons (eCall m_whole (aCons (eOp oIx (eVar 1) (eVar 6)) aNil)) aNil)))) b_even_dealt_7)
noncomputable abbrev b_even_dealt_5 : Sv := (sSeq (sSet 7 (eCall m_over (aCons (eCall m_times (aCons (eVar 3) (aCons (eCall m_whole (aCons (eOp oIx (eVar 0) (eVar 6)) aNil)) aNil))) (aCons (eCall m_whole (aCons (eVar 4) aNil)) aNil)))) b_even_dealt_6)
noncomputable abbrev b_even_dealt_9 : Sv := (sRetOwn 5)
noncomputable abbrev b_even_dealt_4 : Sv := (sRank (aCons (eF (fCall m_levels_of (aCons (eVar 0) (aCons (eVar 1) aNil)))) aNil) k_ranked (gName 6) b_even_dealt_5 b_even_dealt_9)
noncomputable abbrev b_even_dealt_3 : Sv := (sSeq (sOwn 5 (fRep (fLst (aCons (eC d_NOUGHT) aNil)) (eB bLen (aCons (eVar 1) aNil)))) b_even_dealt_4)
noncomputable abbrev b_even_dealt_2 : Sv := (sSeq (sSet 4 (eB bSum (aCons (eVar 0) aNil))) b_even_dealt_3)
noncomputable def m_even_dealt : Mir := fn 3 8 (sSeq (sSet 3 (eVar 2)) b_even_dealt_2)
noncomputable abbrev b_part_dealt_5 : Sv := (sRetF (fComp (iSeq (eVar 0)) tTrue (eCall m_times (aCons (eVar 3) (aCons (eCall m_whole (aCons (eVar 4) aNil)) aNil)))))
noncomputable abbrev b_part_dealt_4 : Sv := (sSeq (sSet 3 (eCall m_over (aCons (eVar 1) (aCons (eCall m_whole (aCons (eVar 2) aNil)) aNil)))) b_part_dealt_5)
noncomputable abbrev b_part_dealt_2 : Sv := (sSeq (sIf (tVal (eOp oEq (eVar 2) (eC (.int 0)))) (sRetF (fRep (fLst (aCons (eC d_NOUGHT) aNil)) (eB bLen (aCons (eVar 0) aNil)))) sNext) b_part_dealt_4)
noncomputable def m_part_dealt : Mir := fn 2 4 (sSeq (sSet 2 (eB bSum (aCons (eVar 0) aNil))) b_part_dealt_2)
noncomputable abbrev b_half_dealt_2 : Sv := (sRetF (fComp (iSeq (eF (fCall m_even_dealt (aCons (eVar 2) (aCons (eVar 0) (aCons (eCall m_plus (aCons (eVar 1) (aCons (eVar 1) aNil))) aNil)))))) tTrue (eCall m_times (aCons (eVar 3) (aCons (eC d_HALF) aNil)))))
noncomputable def m_half_dealt : Mir := fn 2 3 (sSeq (sSet 2 (eF (fRep (fLst (aCons (eC (.int 1)) aNil)) (eB bLen (aCons (eVar 0) aNil))))) b_half_dealt_2)
noncomputable abbrev b_rightly_dealt_11 (r : Mir) : Sv := (sRetF (fComp2 (iZip (aCons (eVar 2) (aCons (eVar 5) aNil))) (eCall m_minus (aCons (eCall m_whole (aCons (eVar 6) aNil)) (aCons (eVar 7) aNil)))))
noncomputable abbrev b_rightly_dealt_10 (r : Mir) : Sv := (sSeq (sSet 5 (eF (fCall r (aCons (eUn (oTabAt t_CONTRARY) (eVar 0)) (aCons (eVar 1) (aCons (eVar 2) (aCons (eCall m_minus (aCons (eVar 4) (aCons (eVar 3) aNil))) aNil))))))) (b_rightly_dealt_11 r))
noncomputable abbrev b_rightly_dealt_8 (r : Mir) : Sv := (sSeq (sIf (tAndB (tVal (eOp oEq (eVar 0) (eC (.str "half")))) (tNotB (tVal (eCall m_less (aCons (eVar 4) (aCons (eCall m_plus (aCons (eVar 3) (aCons (eVar 3) aNil))) aNil)))))) (sRetF (fCall m_half_dealt (aCons (eVar 2) (aCons (eVar 3) aNil)))) sNext) (b_rightly_dealt_10 r))
noncomputable abbrev b_rightly_dealt_6 (r : Mir) : Sv := (sSeq (sIf (tVal (eOp oEq (eVar 0) (eC (.str "part")))) (sRetF (fCall m_part_dealt (aCons (eVar 2) (aCons (eVar 3) aNil)))) sNext) (b_rightly_dealt_8 r))
noncomputable abbrev b_rightly_dealt_4 (r : Mir) : Sv := (sSeq (sIf (tVal (eOp oEq (eVar 0) (eC (.str "even")))) (sRetF (fCall m_even_dealt (aCons (eVar 1) (aCons (eVar 2) (aCons (eVar 3) aNil))))) sNext) (b_rightly_dealt_6 r))
noncomputable abbrev b_rightly_dealt_2 (r : Mir) : Sv := (sSeq (sIf (tVal (eOp oEq (eVar 0) (eC (.str "row")))) (sRetF (fCall m_row_dealt (aCons (eVar 2) (aCons (eVar 3) aNil)))) sNext) (b_rightly_dealt_4 r))
noncomputable def g_rightly_dealt (r : Mir) : Mir := fn 4 6 (sSeq (sSet 4 (eCall m_whole (aCons (eB bSum (aCons (eVar 2) aNil)) aNil))) (b_rightly_dealt_2 r))
noncomputable def m_rightly_dealt : Nat → Mir
  | 0 => fn 4 6 sNo
  | n + 1 => g_rightly_dealt (m_rightly_dealt n)
noncomputable abbrev b_dealt_3 : Sv := (sRetF (fCall (m_rightly_dealt 2) (aCons (eVar 0) (aCons (eVar 1) (aCons (eVar 2) (aCons (eVar 3) aNil))))))
noncomputable abbrev b_dealt_2 : Sv := (sSeq (sDrop (eCall m_refuse_outside (aCons (eVar 3) (aCons (eCall m_whole (aCons (eB bSum (aCons (eVar 2) aNil)) aNil)) aNil)))) b_dealt_3)
noncomputable def m_dealt : Mir := fn 4 4 (sSeq (sDrop (eCall m_looked (aCons (eVar 0) (aCons (eVar 1) (aCons (eVar 2) aNil))))) b_dealt_2)
noncomputable abbrev b_law_of_two_4 : Sv := (sRet (eOp oEq (eVar 8) (eF (fLst (aCons (eOp oIx (eVar 3) (eVar 4)) (aCons (eOp oIx (eVar 3) (eVar 5)) aNil))))))
noncomputable abbrev b_law_of_two_3 : Sv := (sSeq (sSet 8 (eF (fCall m_dealt (aCons (eVar 0) (aCons (eVar 6) (aCons (eF (fLst (aCons (eOp oIx (eVar 2) (eVar 4)) (aCons (eOp oIx (eVar 2) (eVar 5)) aNil)))) (aCons (eVar 7) aNil))))))) b_law_of_two_4)
noncomputable abbrev b_law_of_two_2 : Sv := (sSeq (sSet 7 (eCall m_law_added (aCons (eOp oIx (eVar 3) (eVar 4)) (aCons (eOp oIx (eVar 3) (eVar 5)) aNil)))) b_law_of_two_3)
noncomputable def m_law_of_two : Mir := fn 6 9 (sSeq (sSet 6 (eIf (tVal (eOp oNe (eVar 1) (eF (fLst aNil)))) (eF (fLst (aCons (eOp oIx (eVar 1) (eVar 4)) (aCons (eOp oIx (eVar 1) (eVar 5)) aNil)))) (eF (fLst aNil)))) b_law_of_two_2)
noncomputable abbrev b_law_pairs_right_3 : Sv := (sIf (tNotB (tVal (eCall m_law_of_two (aCons (eVar 0) (aCons (eVar 1) (aCons (eVar 2) (aCons (eVar 3) (aCons (eVar 5) (aCons (eVar 4) aNil))))))))) (sRet (eC (.bl false))) sNext)
noncomputable abbrev b_law_pairs_right_2 : Sv := (sFor (iRng1 (aCons (eVar 4) aNil)) (gName 5) b_law_pairs_right_3)
noncomputable abbrev b_law_pairs_right_5 : Sv := (sRet (eC (.bl true)))
noncomputable def m_law_pairs_right : Mir := fn 4 6 (sSeq (sFor (iRng1 (aCons (eB bLen (aCons (eVar 2) aNil)) aNil)) (gName 4) b_law_pairs_right_2) b_law_pairs_right_5)
noncomputable abbrev b_law_4 : Sv := (sSet 2 (eF (fCat (eVar 2) (eF (fRep (fLst (aCons (eC (.int 3)) aNil)) (eB bLen (aCons (eVar 2) aNil)))))))
noncomputable abbrev b_law_11 : Sv := (sIf (tFrzB (tAndB (tVal (eOp oNe (eVar 7) (eVar 6))) (tVal (eCall m_law_pairs_right (aCons (eVar 1) (aCons (eVar 2) (aCons (eVar 3) (aCons (eVar 7) aNil)))))))) (sRet (eC (.bl false))) sNext)
noncomputable abbrev b_law_10 : Sv := (sSeq (sSet 7 (eF (fFrz (fCall m_law_moved (aCons (eVar 3) (aCons (eVar 6) (aCons (eOp oAdd (eOp oMul (eVar 4) (eC (.int 48271))) (eC (.int 7))) aNil))))))) b_law_11)
noncomputable abbrev b_law_8 : Sv := (sSeq (sIf (tFrzB (tOrB (tNotB (tVal (eCall m_law_dealing (aCons (eVar 6) (aCons (eVar 3) (aCons (eVar 5) aNil)))))) (tNotB (tVal (eCall m_law_pairs_right (aCons (eVar 1) (aCons (eVar 2) (aCons (eVar 3) (aCons (eVar 6) aNil))))))))) (sRet (eC (.bl false))) sNext) b_law_10)
noncomputable abbrev b_law_7 : Sv := (sSeq (sSet 6 (eF (fFrz (fCall m_dealt (aCons (eVar 1) (aCons (eF (fList (aCons (eVar 2) aNil))) (aCons (eF (fList (aCons (eVar 3) aNil))) (aCons (eVar 5) aNil)))))))) b_law_8)
noncomputable abbrev b_law_6 : Sv := (sSeq (sSet 5 (eFrz (eCall m_law_caught (aCons (eOp oDiv (eVar 4) (eC (.int 5))) (aCons (eB bSum (aCons (eVar 3) aNil)) aNil))))) b_law_7)
noncomputable abbrev b_law_13 : Sv := (sRet (eC (.bl true)))
noncomputable abbrev b_law_5 : Sv := (sSeq (sFor (iSeq (eF (fCat (eF (fLst (aCons (eCall m_law_cell_at (aCons (eVar 0) (aCons (eC (.int 2)) aNil))) aNil))) (eF (fSl (eVar 0) (oS (eC (.int 19))) (oS (eC (.int 24)))))))) (gName 4) b_law_6) b_law_13)
noncomputable abbrev b_law_2 : Sv := (sSeq (sIf (tFrzB (tVal (eOp oEq (eB bLen (aCons (eVar 3) aNil)) (eC (.int 1))))) (sSeq (sApp 3 (eOp oMod (eCall m_law_cell_at (aCons (eVar 0) (aCons (eC (.int 1)) aNil))) (eC (.int 13)))) b_law_4) sNext) b_law_5)
noncomputable def m_law : Mir := fn 1 8 (sSeq (sTri 1 2 3 (aCons (eVar 0) (aCons (eC (.int 8)) aNil)) k_law_drawn) b_law_2)
end Lw

namespace Lw
open L3 PySem Fr Fq Ln
theorem c_NOUGHT : d_NOUGHT = dq 0 := rfl
local macro_rules | `(tactic| walk_at "ev") => do
  let ids : Array (Lean.TSyntax `term) := (("c_NOUGHT d_WEIGHTED d_HALF fn_at iZip_at fComp2_at chO_s oEq_s oNe_s oTabNot_s L3.start sSeq_at seqF_nx seqF_ret sSet_at setF sOwn_at ownF sRet_at retF sRetF_at retFF sRetOwn_at retS sRetN sIf_at ifF_t ifF_f sNext sNo sDrop_at dropF dropG eVar_at varS eC eOp_at opF eUn eCall_at callF rtF eB eTup_at tupF aCons_at consF consG aNil tVal_at blF tNotB_at notF tAndB_at tandF_t tandF_f tOrB_at torF_t torF_f eAnd_at andF_t andF_f eOr_at orF_t orF_f eIf_at eifF_t eifF_f eF_at efF fLst_at fLstF fCall_at fcallF rtFF fList_at fListF_l fListF_t fComp_at fRep_at repF fCat_at catF catG eFrz_at frzF fFrz_at fFrzF oN oS_at oSF fSl_at fSlF fSlG fSlH isNon sApp_at appS appF sAug_at augS augF setG sUnp_at unpF nxF bSum_l bSum_t gTup_at gtF_t gCons_at gNil_at gName sFor_at forF iSeq_at seqD_l seqD_t iRng1_at sFrz tFrzB okb erb Rt.d fin oAdd_i oSub_i oMul_i oDiv_i oMod_i oPow_i oEq_i oNe_i oLt_i oLe_i oGt_i oGe_i oIx_tc oNeg_i oNot_b bAbs_i bLen_t bLen_l bMin_i eIsT_at isTF isT ty_i ty_t ty_l ty_b ty_s ty_n ofO_some atD sRaise_at raiseF Sl.frz noErr dep depS noL noLs List.map_cons List.map_nil List.cons_append List.nil_append List.append_nil List.replicate List.length_cons List.length_nil List.getElem?_cons_zero List.getElem?_cons_succ List.set_cons_zero List.set_cons_succ Nat.reduceAdd Nat.reduceSub Nat.reduceLeDiff Nat.reduceEqDiff Nat.zero_add Nat.sub_self Nat.max_self Nat.zero_le if_true ite_true ite_false if_false Bool.false_eq_true Bool.not_true Bool.not_false reduceIte ite_self Int.toNat_zero Int.reduceToNat Int.reduceLE Int.reduceLT Int.le_refl decide_true decide_false Bool.or_true Bool.or_false Bool.true_or Bool.false_or Bool.and_true Bool.true_and Bool.and_false Bool.false_and String.reduceBEq String.reduceEq beq_self_eq_true ix_dq0 ix_dq1 ty_dq dep_dq noL_dq len_dq eq_dq oEq_dq oNe_dq List.length_map okDiv_lit okMul_litr okMul_litl okp9 okp30 okp40 p10 fdiv_pos fmod_pos Int.reduceEq Int.reduceNeg p10ne p10ne2 p10pos2 Int.reduceMul Int.reduceAdd Int.reduceSub Int.reduceDiv Int.reduceMod eqD Nat.reduceLT Nat.reducePow ne_eq not_true_eq_false not_false_eq_true".splitOn " ").map fun s => ⟨Lean.mkIdent s.toName⟩).toArray
  `(tactic| simp only [$[$ids:term],*])

theorem f_common_divisor (t b : Int) : m_common_divisor [.int t, .int b] = .ok (.v (.int (Int.gcd t b : Int))) := by
  unfold m_common_divisor
  walk_at "ev"
  refine wh_inv (fun ρ => ∃ (x y : Int) (r : Sl), ρ = [.val (.int x), .val (.int y), r] ∧ 0 ≤ x ∧ 0 ≤ y ∧ Int.gcd x y = Int.gcd t b) (fun ρ => (slI 1 ρ).toNat)
    (fun r => (r.bind (seqF (sRet (eVar 0)))).bind fin = .ok (.v (.int (Int.gcd t b : Int)))) ⟨_, _, _, rfl, by omega, by omega, by simp [Int.gcd]⟩ ?_
  rintro ρ ⟨x, y, r, rfl, hx, hy, hg⟩
  by_cases h : y = 0
  · subst h
    refine .inl ⟨rfl, ?_⟩
    have e : x = (Int.gcd t b : Int) := by
      rw [Int.gcd_zero_right] at hg
      omega
    rw [← e]
    rfl
  · refine .inr ⟨?_, [.val (.int y), .val (.int (x.fmod y)), .val (.int (x.fmod y))], ?_, ⟨y, x.fmod y, _, rfl, hy, ?_, ?_⟩, ?_⟩
    · walk_at "ev"
      rw [decide_eq_false h]; rfl
    · walk_at "ev"
      rw [oMod_i h]
      walk_at "ev"
    · rw [fmod_nn _ hy]; exact Int.emod_nonneg _ h
    · rw [fmod_nn _ hy]; exact (Fq.gcd_step hx (by omega)).trans hg
    · have := Int.emod_lt_of_pos x (show 0 < y by omega)
      rw [fmod_nn _ hy]
      show (x % y).toNat < y.toNat
      omega

theorem dv_le {t b : Int} (hb : b ≠ 0) : (dv t b).natAbs ≤ b.natAbs := Nat.le_of_dvd (by omega) (Int.natAbs_dvd_natAbs.mpr (dv_dvd_r t b))
theorem f_made {t b : Int} {n : Nat} (hb : b ≠ 0) (hn : b.natAbs < 2 ^ n) (h : n ≤ 8999) : m_made [.int t, .int b] = .ok (.v (dq (Rat.divInt t b))) := by
  have hd : okDiv (dv t b) = true := okDiv_of (dv_ne hb) (Nat.lt_of_le_of_lt (dv_le hb) hn) h
  have e0 : decide (b = 0) = false := decide_eq_false hb
  unfold m_made
  walk_at "ev"
  rw [e0]
  walk_at "ev"
  rw [f_common_divisor]
  walk_at "ev"
  by_cases c : b < 0
  · have e : -(Int.gcd t b : Int) = dv t b := by unfold dv; rw [if_pos c]
    rw [decide_eq_true c]
    walk_at "ev"
    rw [e, oDiv_i hd]
    walk_at "ev"
    rw [oDiv_i hd]
    walk_at "ev"
    rw [num_eq hb, den_eq hb]
    rfl
  · have e : (Int.gcd t b : Int) = dv t b := by unfold dv; rw [if_neg c]
    rw [decide_eq_false c]
    walk_at "ev"
    rw [e, oDiv_i hd]
    walk_at "ev"
    rw [oDiv_i hd]
    walk_at "ev"
    rw [num_eq hb, den_eq hb]
    rfl
theorem f_made0 (t : Int) : m_made [.int t, .int 0] = .err "NoFraction" := by
  unfold m_made
  walk_at "ev"

theorem f_plus {p q : Rat} {m n : Nat} (hp : Sz m p) (hq : Sz n q) (h : m + n ≤ 8999) : m_plus [dq p, dq q] = .ok (.v (dq (p + q))) := by
  unfold m_plus
  walk_at "ev"
  rw [oMul_i (okMul_of hp.1 hq.d (by omega))]
  walk_at "ev"
  rw [oMul_i (okMul_of hq.1 hp.d (by omega))]
  walk_at "ev"
  rw [oMul_i (okMul_of hp.d hq.d (by omega))]
  walk_at "ev"
  rw [f_made (Int.mul_ne_zero (den_ne p) (den_ne q)) (mul_lt hp.d hq.d) h, add_eq]
  walk_at "ev"

theorem f_minus {p q : Rat} {m n : Nat} (hp : Sz m p) (hq : Sz n q) (h : m + n ≤ 8999) : m_minus [dq p, dq q] = .ok (.v (dq (p - q))) := by
  unfold m_minus
  walk_at "ev"
  rw [oMul_i (okMul_of hp.1 hq.d (by omega))]
  walk_at "ev"
  rw [oMul_i (okMul_of hq.1 hp.d (by omega))]
  walk_at "ev"
  rw [oMul_i (okMul_of hp.d hq.d (by omega))]
  walk_at "ev"
  rw [f_made (Int.mul_ne_zero (den_ne p) (den_ne q)) (mul_lt hp.d hq.d) h, sub_eq]
  walk_at "ev"

theorem f_times {p q : Rat} {m n : Nat} (hp : Sz m p) (hq : Sz n q) (h : m + n ≤ 8999) : m_times [dq p, dq q] = .ok (.v (dq (p * q))) := by
  unfold m_times
  walk_at "ev"
  rw [oMul_i (okMul_of hp.1 hq.1 (by omega))]
  walk_at "ev"
  rw [oMul_i (okMul_of hp.d hq.d (by omega))]
  walk_at "ev"
  rw [f_made (Int.mul_ne_zero (den_ne p) (den_ne q)) (mul_lt hp.d hq.d) h, mul_eq]
  walk_at "ev"

theorem f_over {p q : Rat} {m n : Nat} (hp : Sz m p) (hq : Sz n q) (h0 : q ≠ 0) (h : m + n ≤ 8999) : m_over [dq p, dq q] = .ok (.v (dq (p / q))) := by
  unfold m_over
  walk_at "ev"
  rw [oMul_i (okMul_of hp.1 hq.d (by omega))]
  walk_at "ev"
  rw [oMul_i (okMul_of hp.d hq.1 (by omega))]
  walk_at "ev"
  rw [f_made (Int.mul_ne_zero (den_ne p) (num_ne.mpr h0)) (mul_lt hp.d hq.1) h, div_eq]
  walk_at "ev"
theorem f_less {p q : Rat} {m n : Nat} (hp : Sz m p) (hq : Sz n q) (h : m + n ≤ 99999) : m_less [dq p, dq q] = .ok (.v (.bl (decide (p < q)))) := by
  unfold m_less
  walk_at "ev"
  rw [oMul_i (okMul_of hp.1 hq.d (by omega))]
  walk_at "ev"
  rw [oMul_i (okMul_of hq.1 hp.d (by omega))]
  walk_at "ev"
  simp only [lt_iff]

theorem f_law_fr2 {t b : Int} {n : Nat} (hb : 0 < b) (hn : b.natAbs < 2 ^ n) (h : n ≤ 8999) : m_law_fraction [.int t, .int b] = .ok (.v (dq (Rat.divInt t b))) := by
  have hb0 : b ≠ 0 := by omega
  have hd : okDiv (dv t b) = true := okDiv_of (dv_ne hb0) (Nat.lt_of_le_of_lt (dv_le hb0) hn) h
  have e : (Int.gcd t b : Int) = dv t b := by unfold dv; rw [if_neg (by omega)]
  unfold m_law_fraction
  walk_at "ev"
  refine wh_inv (fun ρ => ∃ (x y : Int) (r : Sl), ρ = [.val (.int t), .val (.int b), .val (.int x), .val (.int y), r] ∧ 0 ≤ x ∧ 0 ≤ y ∧ Int.gcd x y = Int.gcd t b) (fun ρ => (slI 3 ρ).toNat)
    (fun r => (r.bind (seqF b_law_fraction_7)).bind fin = .ok (.v (dq (Rat.divInt t b)))) ⟨_, _, _, rfl, by omega, by omega, by simp [Int.gcd]⟩ ?_
  rintro ρ ⟨x, y, r, rfl, hx, hy, hg⟩
  by_cases c : y = 0
  · subst c
    have e2 : x = dv t b := by
      rw [Int.gcd_zero_right] at hg
      omega
    subst e2
    refine .inl ⟨rfl, ?_⟩
    walk_at "ev"
    rw [decide_eq_false (dv_ne hb0)]
    walk_at "ev"
    rw [oDiv_i hd]
    walk_at "ev"
    rw [oDiv_i hd]
    walk_at "ev"
    rw [num_eq hb0, den_eq hb0]
    rfl
  · have hp : 0 < y := by omega
    refine .inr ⟨?_, [.val (.int t), .val (.int b), .val (.int y), .val (.int (x % y)), .val (.int (x % y))], ?_, ⟨y, x % y, _, rfl, hy, Int.emod_nonneg _ c, (gcd_step hx hp).trans hg⟩, ?_⟩
    · walk_at "ev"
      rw [decide_eq_true hp]
    · walk_at "ev"
      rw [oMod_i c, fmod_pos _ hp]
      walk_at "ev"
    · have := Int.emod_lt_of_pos x hp
      show (x % y).toNat < y.toNat
      omega

theorem f_law_is_fraction {q : Rat} {n : Nat} (hq : Sz n q) (h : n ≤ 8999) : m_law_is_fraction [dq q] = .ok (.v (.bl true)) := by
  unfold m_law_is_fraction
  walk_at "ev"
  show ((((Res.ok [D.int q.num, D.int (q.den : Int)]).bind _).bind _).bind _) = _
  walk_at "ev"
  refine loop_go (Q := fun r => r.bind fin = .ok (.v (.bl true))) (fun ρ => ∃ a, ρ = [.val (dq q), a]) ⟨_, rfl⟩ ?_ ?_
  · rintro d ρ hd ⟨a, rfl⟩
    have hi : ∃ i, d = .int i := by
      rcases List.mem_cons.mp hd with rfl | hd
      · exact ⟨_, rfl⟩
      · rcases List.mem_cons.mp hd with rfl | hd
        · exact ⟨_, rfl⟩
        · cases hd
    obtain ⟨i, rfl⟩ := hi
    walk_at "ev"
    exact ⟨_, rfl, _, rfl⟩
  · rintro ρ' ⟨a, rfl⟩
    walk_at "ev"
    rw [decide_eq_true (den_pos q)]
    walk_at "ev"
    rw [f_law_fr2 (den_pos q) hq.d h, Rat.num_divInt_den]
    walk_at "ev"

theorem f_law_cell_at (ns : List Int) (k : Int) (h : 0 ≤ k) : m_law_cell_at [.lst (ns.map D.int), .int k] = .ok (.v (.int (ns.getD k.toNat 0))) := by
  unfold m_law_cell_at
  walk_at "ev"
  by_cases c : k < (ns.length : Int)
  · rw [decide_eq_true c]
    walk_at "ev"
    have hk : k.toNat < ns.length := by omega
    rw [ix_map h (List.getElem?_eq_getElem hk), List.getD_eq_getElem?_getD, List.getElem?_eq_getElem hk]
    rfl
  · rw [decide_eq_false c]
    walk_at "ev"
    rw [List.getD_eq_getElem?_getD, List.getElem?_eq_none (by omega)]
    rfl

noncomputable def mn (a b : Rat) : Rat := if a < b then a else b
noncomputable def ps0 (x : Rat) : Rat := if x < 0 then 0 else x
noncomputable def fillR : List Int → Int → Rat → List Rat
  | [], _, _ => []
  | c :: r, a, q => mn (ps0 (q - (a : Rat))) (c : Rat) :: fillR r (a + c) q
theorem fillR_len : ∀ (cs : List Int) (a : Int) (q : Rat), (fillR cs a q).length = cs.length
  | [], _, _ => rfl
  | c :: r, a, q => by simp only [fillR, List.length_cons, fillR_len r]
theorem ps_step {q : Rat} {a c : Int} (h : 0 ≤ c) : ps0 (q - (a : Rat)) - mn (ps0 (q - (a : Rat))) (c : Rat) = ps0 (q - ((a + c : Int) : Rat)) := by
  have h' : (0 : Rat) ≤ (c : Rat) := by exact_mod_cast h
  rw [Rat.intCast_add]
  unfold ps0 mn
  grind
theorem sz_int {n : Nat} {k : Int} (h : k.natAbs < 2 ^ n) (h0 : 0 < n) : Sz n (k : Rat) := by
  refine ⟨h, ?_⟩
  show 1 < 2 ^ n
  exact Nat.one_lt_two_pow (by omega)
theorem sz_ps {n : Nat} {q : Rat} (h : Sz n q) (h0 : 0 < n) : Sz n (ps0 q) := by
  unfold ps0
  split
  · exact sz_int (k := 0) (Nat.two_pow_pos n) h0
  · exact h
theorem sz_mn {n : Nat} {p q : Rat} (h : Sz n p) (h' : Sz n q) : Sz n (mn p q) := by
  unfold mn
  split
  · exact h
  · exact h'
theorem f_whole (k : Int) : m_whole [.int k] = .ok (.v (dq (k : Rat))) := by
  unfold m_whole
  walk_at "ev"
  rw [dq_int]
theorem f_lesser {p q : Rat} {m n : Nat} (hp : Sz m p) (hq : Sz n q) (h : m + n ≤ 99999) : m_lesser [dq p, dq q] = .ok (.v (dq (mn p q))) := by
  unfold m_lesser
  walk_at "ev"
  rw [f_less hp hq h]
  walk_at "ev"
  unfold mn
  by_cases c : p < q
  · rw [decide_eq_true c, if_pos c]
    walk_at "ev"
  · rw [decide_eq_false c, if_neg c]
    walk_at "ev"
structure Cl (cs : List Int) : Prop where
  nn : ∀ c ∈ cs, 0 ≤ c
  up : ∀ c ∈ cs, c < 10 ^ 30
  lo : 1 ≤ cs.length
  hi : cs.length ≤ 12
theorem sum_bd : ∀ {cs : List Int}, (∀ c ∈ cs, 0 ≤ c) → (∀ c ∈ cs, c < 10 ^ 30) → 0 ≤ cs.sum ∧ cs.sum ≤ cs.length * 10 ^ 30
  | [], _, _ => by decide
  | c :: r, h, h' => by
    have ih := sum_bd (fun x hx => h x (List.mem_cons_of_mem _ hx)) fun x hx => h' x (List.mem_cons_of_mem _ hx)
    have a := h c List.mem_cons_self
    have b := h' c List.mem_cons_self
    rw [List.sum_cons, List.length_cons]
    refine ⟨by omega, ?_⟩
    have : ((r.length + 1 : Nat) : Int) * 10 ^ 30 = (r.length : Int) * 10 ^ 30 + 10 ^ 30 := by rw [Int.natCast_add, Int.add_mul]; rfl
    omega
theorem Cl.sum {cs : List Int} (h : Cl cs) : 0 ≤ cs.sum ∧ cs.sum < 2 ^ 104 := by
  have a := sum_bd h.nn h.up
  have b := h.hi
  refine ⟨a.1, ?_⟩
  omega
structure Haul (m : Nat) (q : Rat) (W : Int) : Prop where
  nn : 0 ≤ q
  up : q ≤ (W : Rat)
  sz : Sz m q
theorem row_loop {d : D} {q : Rat} {m : Nat} (hm : m ≤ 3000) (hq : Sz m q) : ∀ (cs : List Int) (a : Int) (acc : List D) (s t : Sl), (∀ c ∈ cs, 0 ≤ c) → (∀ c ∈ cs, c < 10 ^ 30) → 0 ≤ a → a + cs.length * 10 ^ 30 < 2 ^ 110 → acc.length + cs.length ≤ 100 →
    ∃ l' s' t', loop (gName 4) b_row_dealt_4 (cs.map D.int) [.val d, .val (dq q), .val (dq (ps0 (q - (a : Rat)))), .own acc, s, t] = .ok (.nx [.val d, .val (dq q), l', .own (acc ++ (fillR cs a q).map dq), s', t'])
  | [], a, acc, s, t, _, _, _, _, _ => ⟨.val (dq (ps0 (q - (a : Rat)))), s, t, by rw [List.map_nil, loop]; simp [fillR]⟩
  | c :: r, a, acc, s, t, h1, h2, h3, h4, h5 => by
    have c0 := h1 c List.mem_cons_self
    have c1 := h2 c List.mem_cons_self
    rw [List.length_cons] at h4 h5
    have e4 : ((r.length + 1 : Nat) : Int) * 10 ^ 30 = (r.length : Int) * 10 ^ 30 + 10 ^ 30 := by rw [Int.natCast_add, Int.add_mul]; rfl
    have r0 : 0 ≤ (r.length : Int) * 10 ^ 30 := Int.mul_nonneg (by omega) (by decide)
    have zl : Sz (m + 111) (ps0 (q - (a : Rat))) := sz_ps (hq.sub (sz_int (n := 110) (by omega) (by decide))) (by omega)
    have zc : Sz (m + 111) (c : Rat) := Sz.mono (m := 110) (sz_int (by omega) (by decide)) (by omega)
    obtain ⟨l', s', t', e⟩ := row_loop hm hq r (a + c) (acc ++ [dq (mn (ps0 (q - (a : Rat))) (c : Rat))]) (.val (.int c)) (.val (dq (mn (ps0 (q - (a : Rat))) (c : Rat)))) (fun x hx => h1 x (List.mem_cons_of_mem _ hx)) (fun x hx => h2 x (List.mem_cons_of_mem _ hx)) (by omega) (by omega) (by rw [List.length_append, List.length_singleton]; omega)
    refine ⟨l', s', t', ?_⟩
    rw [List.map_cons, loop_cons (ρ1 := [.val d, .val (dq q), .val (dq (ps0 (q - (a : Rat)))), .own acc, .val (.int c), t]) rfl, e]
    · rw [fillR, List.map_cons, List.append_assoc]; rfl
    · walk_at "ev"
      rw [f_whole]
      walk_at "ev"
      rw [f_lesser zl zc (by omega)]
      walk_at "ev"
      rw [if_pos (by omega)]
      walk_at "ev"
      rw [f_minus zl (sz_mn zl zc) (by omega)]
      walk_at "ev"
      rw [ps_step c0]
theorem f_row_dealt {d : D} {cs : List Int} {q : Rat} (hd : d = .lst (cs.map D.int) ∨ d = .tup (cs.map D.int)) {m : Nat} (hm : m ≤ 3000) (hc : Cl cs) (hq : Sz m q) (h0 : 0 ≤ q) : m_row_dealt [d, dq q] = .ok (.f ((fillR cs 0 q).map dq)) := by
  have sq : seqD d = .ok (cs.map D.int) := by rcases hd with rfl | rfl <;> rfl
  have := hc.hi
  obtain ⟨l', s', t', e⟩ := row_loop (d := d) hm hq cs 0 [] .un .un hc.nn hc.up (by decide) (by omega) (by rw [List.length_nil]; omega)
  have z : ps0 (q - ((0 : Int) : Rat)) = q := by
    unfold ps0
    rw [show ((0 : Int) : Rat) = 0 from rfl]
    grind
  rw [z] at e
  unfold m_row_dealt
  walk_at "ev"
  rw [sq]
  walk_at "ev"
  rw [e]
  rfl
noncomputable def partR (cs : List Int) (q : Rat) : List Rat := cs.map fun c => Rat.divInt (c * q.num) (max 1 cs.sum * q.den)
theorem part_is {q : Rat} {c W : Int} (h : 0 < W) : q / (W : Rat) * (c : Rat) = Rat.divInt (c * q.num) (W * q.den) := by
  have hW : (W : Rat) ≠ 0 := by
    intro z
    have : W = 0 := by exact_mod_cast z
    omega
  rw [← div_eq q (W : Rat)]
  show Rat.divInt (q.num * ((1 : Nat) : Int)) (q.den * W) * (c : Rat) = _
  rw [show ((1 : Nat) : Int) = 1 from rfl, Int.mul_one, ← Rat.num_divInt_den (c : Rat), Rat.divInt_mul_divInt]
  show Rat.divInt (q.num * c) (q.den * W * ((1 : Nat) : Int)) = _
  rw [show ((1 : Nat) : Int) = 1 from rfl, Int.mul_one, Int.mul_comm q.num, Int.mul_comm (q.den : Int)]
theorem all_zero : ∀ {cs : List Int}, (∀ c ∈ cs, 0 ≤ c) → cs.sum = 0 → ∀ c ∈ cs, c = 0
  | [], _, _, c, h => by cases h
  | d :: r, h, e, c, hc => by
    rw [List.sum_cons] at e
    have h0 := h d List.mem_cons_self
    have hr : 0 ≤ r.sum := by
      have : ∀ l : List Int, (∀ c ∈ l, 0 ≤ c) → 0 ≤ l.sum := by
        intro l
        induction l with
        | nil => intro _; decide
        | cons a l ih => intro hl; rw [List.sum_cons]; have := hl a List.mem_cons_self; have := ih fun x hx => hl x (List.mem_cons_of_mem _ hx); omega
      exact this r fun x hx => h x (List.mem_cons_of_mem _ hx)
    rcases List.mem_cons.mp hc with rfl | hc
    · omega
    · exact all_zero (fun x hx => h x (List.mem_cons_of_mem _ hx)) (by omega) c hc
theorem f_part_dealt {d : D} {cs : List Int} {q : Rat} (hd : d = .lst (cs.map D.int) ∨ d = .tup (cs.map D.int)) {m : Nat} (hm : m ≤ 3000) (hc : Cl cs) (hq : Sz m q) : m_part_dealt [d, dq q] = .ok (.f ((partR cs q).map dq)) := by
  have sm := hc.sum
  have hi := hc.hi
  have sq : seqD d = .ok (cs.map D.int) := by rcases hd with rfl | rfl <;> rfl
  have su : bSum [d] = .ok (.int cs.sum) := by rcases hd with rfl | rfl; exact bSum_l; exact bSum_t
  have ln : bLen [d] = .ok (.int cs.length) := by rcases hd with rfl | rfl <;> (walk_at "ev")
  unfold m_part_dealt
  walk_at "ev"
  rw [su]
  walk_at "ev"
  by_cases c0 : cs.sum = 0
  · rw [decide_eq_true c0]
    walk_at "ev"
    rw [ln]
    walk_at "ev"
    rw [repG_1 (by omega)]
    walk_at "ev"
    have e : (partR cs q).map dq = List.replicate cs.length (dq 0) := by
      unfold partR
      rw [List.map_map, ← List.map_const']
      refine List.map_congr_left fun c h => ?_
      have c0 := all_zero hc.nn c0 c h
      subst c0
      show dq (Rat.divInt (0 * q.num) _) = dq 0
      rw [Int.zero_mul, Rat.zero_divInt]
    rw [e]
  · rw [decide_eq_false c0]
    walk_at "ev"
    have W0 : 0 < cs.sum := by omega
    have zW : Sz 110 (cs.sum : Rat) := sz_int (by omega) (by decide)
    have nW : (cs.sum : Rat) ≠ 0 := by
      intro z
      have : cs.sum = 0 := by exact_mod_cast z
      omega
    rw [f_whole]
    walk_at "ev"
    rw [f_over hq zW nW (by omega)]
    walk_at "ev"
    rw [sq]
    walk_at "ev"
    rw [compF_of (u := D.int) (g := fun c => dq (Rat.divInt (c * q.num) (max 1 cs.sum * q.den))) (by omega) (fun c h => by
      have c0 := hc.nn c h
      have c1 := hc.up c h
      walk_at "ev"
      rw [f_whole]
      walk_at "ev"
      rw [f_times (hq.div zW nW) (sz_int (n := 110) (k := c) (by omega) (by decide)) (by omega)]
      walk_at "ev"
      rw [part_is W0, Int.max_eq_right (by omega)])]
    walk_at "ev"
    unfold partR
    rw [List.map_map]
    rfl

/-! ### even: whoever is not full gets its weight times one level -/
noncomputable def muls (f : Nat → Rat) (l : List Nat) : Rat := (l.map f).sum
theorem muls_cons (f : Nat → Rat) (i : Nat) (l : List Nat) : muls f (i :: l) = f i + muls f l := by unfold muls; rw [List.map_cons, List.sum_cons]
theorem muls_nil (f : Nat → Rat) : muls f [] = 0 := rfl
theorem muls_le {f g : Nat → Rat} : ∀ {l : List Nat}, (∀ i ∈ l, f i ≤ g i) → muls f l ≤ muls g l
  | [], _ => Rat.le_refl
  | i :: l, h => by
    rw [muls_cons, muls_cons]
    have a := h i List.mem_cons_self
    have b := muls_le fun j hj => h j (List.mem_cons_of_mem _ hj)
    grind
theorem muls_eq {f g : Nat → Rat} : ∀ {l : List Nat}, (∀ i ∈ l, f i ≤ g i) → muls f l = muls g l → ∀ i ∈ l, f i = g i
  | [], _, _, i, hi => by cases hi
  | j :: l, h, e, i, hi => by
    rw [muls_cons, muls_cons] at e
    have a := h j List.mem_cons_self
    have hb : ∀ i ∈ l, f i ≤ g i := fun k hk => h k (List.mem_cons_of_mem _ hk)
    have b := muls_le hb
    rcases List.mem_cons.mp hi with rfl | hi
    · grind
    · exact muls_eq hb (by grind) i hi
theorem muls_perm {f : Nat → Rat} {l m : List Nat} (h : l.Perm m) : muls f l = muls f m := by
  induction h with
  | nil => rfl
  | cons x _ ih => rw [muls_cons, muls_cons, ih]
  | swap x y l => rw [muls_cons, muls_cons, muls_cons, muls_cons]; grind
  | trans _ _ h1 h2 => rw [h1, h2]
theorem muls_scale {w : Nat → Rat} {t : Rat} : ∀ {l : List Nat}, muls (fun i => w i * t) l = t * muls w l
  | [] => by rw [muls_nil, muls_nil]; grind
  | i :: l => by rw [muls_cons, muls_cons, muls_scale]; grind
theorem muls_congr {f g : Nat → Rat} {l : List Nat} (h : ∀ i ∈ l, f i = g i) : muls f l = muls g l := by unfold muls; rw [List.map_congr_left h]
theorem muls_pos {w : Nat → Rat} : ∀ {l : List Nat}, (∀ i ∈ l, 0 < w i) → 0 ≤ muls w l
  | [], _ => Rat.le_refl
  | i :: l, h => by
    rw [muls_cons]
    have a := h i List.mem_cons_self
    have b := muls_pos fun j hj => h j (List.mem_cons_of_mem _ hj)
    grind
/-- what each gets at the level t -/
noncomputable def gets (c w : Nat → Rat) (t : Rat) (i : Nat) : Rat := mn (w i * t) (c i)
theorem mn_le {a b c d : Rat} (h : a ≤ c) (h' : b ≤ d) : mn a b ≤ mn c d := by unfold mn; grind
theorem gets_mono {c w : Nat → Rat} {t u : Rat} {i : Nat} (hw : 0 < w i) (h : t ≤ u) : gets c w t i ≤ gets c w u i :=
  mn_le (Rat.mul_le_mul_of_nonneg_left h (Rat.le_of_lt hw)) Rat.le_refl
/-- the same sum, the same parts -/
theorem gets_one {c w : Nat → Rat} {t u : Rat} {l : List Nat} (hw : ∀ i ∈ l, 0 < w i) (h : muls (gets c w t) l = muls (gets c w u) l) : ∀ i ∈ l, gets c w t i = gets c w u i := by
  rcases Rat.le_total (a := t) (b := u) with g | g
  · exact muls_eq (fun i hi => gets_mono (hw i hi) g) h
  · exact fun i hi => (muls_eq (fun i hi => gets_mono (hw i hi) g) h.symm i hi).symm
/-! one turn -/
theorem turn_open {L W w c : Rat} (hW : 0 < W) (h : L * w / W < c) : mn (L * w / W) c = mn (w * (L / W)) c ∧ mn (w * (L / W)) c = w * (L / W) := by
  have e : L * w / W = w * (L / W) := by grind
  rw [e] at h ⊢
  exact ⟨rfl, if_pos h⟩
theorem turn_flat {r W w c : Rat} (hW : W ≠ 0) (h : w * r ≤ c) : mn (r * W * w / W) c = w * r := by
  have e : r * W * w / W = w * r := by grind
  rw [e]
  unfold mn
  grind
theorem lvl_later {ci wi cj wj r : Rat} (h1 : 0 < wi) (h2 : 0 < wj) (h : ci * wj ≤ cj * wi) (hr : wi * r ≤ ci) : wj * r ≤ cj := by
  have a : wi * r * wj ≤ ci * wj := Rat.mul_le_mul_of_nonneg_right hr (Rat.le_of_lt h2)
  have b : wj * r * wi ≤ cj * wi := by
    have : wj * r * wi = wi * r * wj := by grind
    rw [this]; exact Rat.le_trans a h
  exact Rat.le_of_mul_le_mul_right b h1
theorem full_bound {L W w c b : Rat} (hw : 0 < w) (h : ¬ L * w / W < c) (hW : 0 < W) (hb : b * W ≤ L) : ∃ b', b ≤ b' ∧ c ≤ w * b' ∧ b' * (W - w) ≤ L - c := by
  have h1 : c * W ≤ L * w := by
    have h' := Rat.not_lt.mp h
    have := Rat.mul_le_mul_of_nonneg_right h' (Rat.le_of_lt hW)
    rwa [Rat.div_mul_cancel (by grind)] at this
  have e1 : w * (c / w) = c := by grind
  have e2 : c / w * (W - w) = c * W / w - c := by grind
  have e3 : c * W / w ≤ L := by
    have a : c * W / w * w ≤ L * w := by rw [Rat.div_mul_cancel (by grind)]; exact h1
    exact Rat.le_of_mul_le_mul_right a hw
  rcases Rat.le_total (a := b) (b := c / w) with g | g
  · exact ⟨c / w, g, by rw [e1]; exact Rat.le_refl, by rw [e2]; grind⟩
  · refine ⟨b, Rat.le_refl, ?_, ?_⟩
    · have := Rat.mul_le_mul_of_nonneg_left g (Rat.le_of_lt hw)
      rwa [e1] at this
    · have := Rat.mul_le_mul_of_nonneg_left g (Rat.le_of_lt hw)
      rw [e1] at this
      grind

/-- claims and weights -/
structure Wt (ws cs : List Int) : Prop where
  len : ws.length = cs.length
  lo : ∀ w ∈ ws, 1 ≤ w
  up : ∀ w ∈ ws, w ≤ 10 ^ 6
noncomputable def cR (cs : List Int) (i : Nat) : Rat := ((cs.getD i 0 : Int) : Rat)
noncomputable def setAll : List (Nat × Rat) → List D → List D
  | [], am => am
  | p :: r, am => setAll r (am.set p.1 (dq p.2))
noncomputable def wS (ws : List Int) (π : List Nat) : Int := (π.map fun i => ws.getD i 0).sum
theorem wS_cons (ws : List Int) (i : Nat) (π : List Nat) : wS ws (i :: π) = ws.getD i 0 + wS ws π := by unfold wS; rw [List.map_cons, List.sum_cons]
theorem at_getD {l : List Int} {i : Nat} (h : i < l.length) : l[i]? = some (l.getD i 0) := by rw [List.getD_eq_getElem?_getD, List.getElem?_eq_getElem h]; rfl
theorem ix_nat {l : List Int} {i : Nat} (h : i < l.length) : oIx (.lst (l.map D.int)) (.int (i : Int)) = .ok (.int (l.getD i 0)) := ix_map (Int.natCast_nonneg i) (show l[((i : Nat) : Int).toNat]? = some (l.getD i 0) from at_getD h)
theorem put_i {i : Nat} {k e : Ev} {ρ : Rho} {ds : List D} {d : D} {j : Nat} (h1 : e ρ = .ok d) (h2 : ρ[i]? = some (.own ds)) (h3 : k ρ = .ok (.int (j : Int))) (h4 : j < ds.length) : sPut i k e ρ = .ok (.nx (ρ.set i (.own (ds.set j d)))) := by
  unfold sPut
  rw [h1]
  show (match ρ[i]? with | some (.own ds) => _ | _ => _) = _
  rw [h2]
  show (k ρ).bind _ = _
  rw [h3]
  exact if_pos ⟨Int.natCast_nonneg j, by omega⟩
theorem ix_set {ds : List D} {d : D} {i : Nat} (h : i < ds.length) : oIx (.lst (ds.set i d)) (.int (i : Int)) = .ok d := by
  have e := ix_map (f := id) (l := ds.set i d) (i := (i : Int)) (a := d) (Int.natCast_nonneg i) (show (ds.set i d)[i]? = some d from List.getElem?_set_self h)
  rwa [List.map_id] at e
theorem Wt.at {ws cs : List Int} (h : Wt ws cs) {i : Nat} (hi : i < cs.length) : 1 ≤ ws.getD i 0 ∧ ws.getD i 0 ≤ 10 ^ 6 := by
  have := at_getD (l := ws) (i := i) (by rw [h.len]; exact hi)
  exact ⟨h.lo _ (List.mem_of_getElem? this), h.up _ (List.mem_of_getElem? this)⟩
theorem Wt.sum {ws cs : List Int} (h : Wt ws cs) : ∀ {π : List Nat}, (∀ i ∈ π, i < cs.length) → (π.length : Int) ≤ wS ws π ∧ wS ws π ≤ π.length * 10 ^ 6
  | [], _ => ⟨Int.le_refl _, Int.le_refl _⟩
  | i :: π, hi => by
    have a := h.at (hi i List.mem_cons_self)
    have b := h.sum fun j hj => hi j (List.mem_cons_of_mem _ hj)
    rw [wS_cons, List.length_cons]
    omega
/-- one turn -/
theorem ev_turn {ws cs : List Int} {qv s7 : Sl} {L : Rat} {W : Int} {i : Nat} {am : List D} (hW : Wt ws cs) (hc : ∀ c ∈ cs, 0 ≤ c ∧ c < 10 ^ 30) {m : Nat} (hm : m ≤ 3000) (hL : Sz (m + 250) L) (W0 : 0 < W) (W1 : W ≤ 12 * 10 ^ 6) (hi : i < cs.length) (ha : am.length = cs.length) {a : Rat} (ea : mn (L * cR ws i / (W : Rat)) (cR cs i) = a) :
    b_even_dealt_5 [.val (.lst (ws.map D.int)), .val (.lst (cs.map D.int)), qv, .val (dq L), .val (.int W), .own am, .val (.int (i : Nat)), s7] =
      .ok (.nx [.val (.lst (ws.map D.int)), .val (.lst (cs.map D.int)), qv, .val (dq (L - a)), .val (.int (W - ws.getD i 0)), .own (am.set i (dq a)), .val (.int (i : Nat)), .val (dq (L * cR ws i / (W : Rat)))]) := by
  have hiw : i < ws.length := by rw [hW.len]; exact hi
  obtain ⟨w1, w2⟩ := hW.at hi
  obtain ⟨c1, c2⟩ := hc _ (List.mem_of_getElem? (at_getD hi))
  have zW : Sz 24 (W : Rat) := sz_int (by omega) (by decide)
  have zw : Sz 20 (cR ws i) := sz_int (by omega) (by decide)
  have zc : Sz (m + 294) (cR cs i) := Sz.mono (m := 100) (sz_int (by omega) (by decide)) (by omega)
  have nW : (W : Rat) ≠ 0 := by
    intro z
    have : W = 0 := by exact_mod_cast z
    omega
  have fw : m_whole [.int (ws.getD i 0)] = .ok (.v (dq (cR ws i))) := f_whole _
  have fc : m_whole [.int (cs.getD i 0)] = .ok (.v (dq (cR cs i))) := f_whole _
  have zx : Sz (m + 294) (L * cR ws i / (W : Rat)) := ((hL.mul zw).div zW nW).mono (by omega)
  walk_at "ev"
  rw [ix_nat hiw]
  walk_at "ev"
  rw [fw]
  walk_at "ev"
  rw [f_times hL zw (by omega)]
  walk_at "ev"
  rw [f_whole]
  walk_at "ev"
  rw [f_over (hL.mul zw) zW nW (by omega)]
  walk_at "ev"
  rw [put_i (j := i) (d := dq a) (ds := am) (by
    walk_at "ev"
    rw [ix_nat hi]
    walk_at "ev"
    rw [fc]
    walk_at "ev"
    rw [f_lesser zx zc (by omega), ea]
    walk_at "ev") rfl rfl (by omega)]
  walk_at "ev"
  rw [ix_set (by omega)]
  walk_at "ev"
  rw [f_minus hL (ea ▸ sz_mn zx zc) (by omega)]
  walk_at "ev"
  rw [ix_nat hiw]
  walk_at "ev"
theorem wS_muls (ws : List Int) : ∀ π : List Nat, muls (cR ws) π = (wS ws π : Rat)
  | [] => rfl
  | i :: π => by rw [muls_cons, wS_muls ws π, wS_cons, Rat.intCast_add]; rfl
theorem even_flat {ws cs : List Int} {qv : Sl} {r : Rat} {m : Nat} (hm : m ≤ 3000) (hW : Wt ws cs) (hc : ∀ c ∈ cs, 0 ≤ c ∧ c < 10 ^ 30) (hr : Sz (m + 150) r) : ∀ (π : List Nat) (am : List D) (s6 s7 : Sl), (∀ i ∈ π, i < cs.length) → (∀ i ∈ π, cR ws i * r ≤ cR cs i) → π.length ≤ 12 → am.length = cs.length →
    ∃ l' W' s' t', loop (gName 6) b_even_dealt_5 (natsD π) [.val (.lst (ws.map D.int)), .val (.lst (cs.map D.int)), qv, .val (dq (r * (wS ws π : Rat))), .val (.int (wS ws π)), .own am, s6, s7] =
      .ok (.nx [.val (.lst (ws.map D.int)), .val (.lst (cs.map D.int)), qv, l', W', .own (setAll (π.map fun i => (i, cR ws i * r)) am), s', t'])
  | [], am, s6, s7, _, _, _, _ => ⟨_, _, _, _, rfl⟩
  | i :: π, am, s6, s7, h1, h2, h4, h5 => by
    have hi := h1 i List.mem_cons_self
    obtain ⟨W1, W2⟩ := hW.sum h1
    rw [List.length_cons] at h4 W1 W2
    have zW : Sz 24 (wS ws (i :: π) : Rat) := sz_int (by omega) (by decide)
    have nW : (wS ws (i :: π) : Rat) ≠ 0 := by
      intro z
      have : wS ws (i :: π) = 0 := by exact_mod_cast z
      omega
    have e1 : wS ws (i :: π) - ws.getD i 0 = wS ws π := by rw [wS_cons]; omega
    have e2 : r * (wS ws (i :: π) : Rat) - cR ws i * r = r * (wS ws π : Rat) := by
      rw [wS_cons, Rat.intCast_add]
      show r * (cR ws i + (wS ws π : Rat)) - cR ws i * r = _
      grind
    have tn := ev_turn (qv := qv) (s7 := s7) (W := wS ws (i :: π)) (am := am) hW hc hm ((hr.mul zW).mono (by omega)) (by omega) (by omega) hi h5 (turn_flat nW (h2 i List.mem_cons_self))
    rw [e1, e2] at tn
    obtain ⟨l', W', s', t', e⟩ := even_flat hm hW hc hr π (am.set i (dq (cR ws i * r))) _ _ (fun j hj => h1 j (List.mem_cons_of_mem _ hj)) (fun j hj => h2 j (List.mem_cons_of_mem _ hj)) (by omega) (by rw [List.length_set]; exact h5)
    refine ⟨l', W', s', t', ?_⟩
    show loop _ _ (.int (i : Nat) :: natsD π) _ = _
    rw [loop_cons rfl tn, e]
    rfl
theorem even_fill {ws cs : List Int} {qv : Sl} {q : Rat} {m : Nat} (hm : m ≤ 3000) (hW : Wt ws cs) (hc : ∀ c ∈ cs, 0 ≤ c ∧ c < 10 ^ 30) (hq : Sz m q) : ∀ (π : List Nat) (k : Int) (b : Rat) (am : List D) (s6 s7 : Sl), (∀ i ∈ π, i < cs.length) → π.Pairwise (fun i j => cR cs i * cR ws j ≤ cR cs j * cR ws i) → π.length ≤ 12 → am.length = cs.length →
    0 ≤ k → k + π.length * 10 ^ 30 < 2 ^ 110 → 0 ≤ q - (k : Rat) → q - (k : Rat) ≤ muls (cR cs) π → b * (wS ws π : Rat) ≤ q - (k : Rat) →
    ∃ t, b ≤ t ∧ muls (gets (cR cs) (cR ws) t) π = q - (k : Rat) ∧ (∀ i ∈ π, Sz (m + 155) (gets (cR cs) (cR ws) t i)) ∧ ∃ l' W' s' t', loop (gName 6) b_even_dealt_5 (natsD π) [.val (.lst (ws.map D.int)), .val (.lst (cs.map D.int)), qv, .val (dq (q - (k : Rat))), .val (.int (wS ws π)), .own am, s6, s7] =
      .ok (.nx [.val (.lst (ws.map D.int)), .val (.lst (cs.map D.int)), qv, l', W', .own (setAll (π.map fun i => (i, gets (cR cs) (cR ws) t i)) am), s', t'])
  | [], k, b, am, s6, s7, _, _, _, _, _, _, h6, h7, _ => ⟨b, Rat.le_refl, by rw [muls_nil] at h7 ⊢; grind, fun i h => by (cases h), _, _, _, _, rfl⟩
  | i :: π, k, b, am, s6, s7, h1, h2, h3, h4, h5, h5', h6, h7, h8 => by
    have hi := h1 i List.mem_cons_self
    have h1' : ∀ j ∈ π, j < cs.length := fun j hj => h1 j (List.mem_cons_of_mem _ hj)
    obtain ⟨W1, W2⟩ := hW.sum h1
    obtain ⟨V1, V2⟩ := hW.sum h1'
    obtain ⟨w1, w2⟩ := hW.at hi
    obtain ⟨c1, c2⟩ := hc _ (List.mem_of_getElem? (at_getD hi))
    obtain ⟨p1, p2⟩ := List.pairwise_cons.mp h2
    rw [List.length_cons] at h3 h5' W1 W2
    have ek : ((π.length + 1 : Nat) : Int) * 10 ^ 30 = (π.length : Int) * 10 ^ 30 + 10 ^ 30 := by rw [Int.natCast_add, Int.add_mul]; rfl
    have k0 : 0 ≤ (π.length : Int) * 10 ^ 30 := Int.mul_nonneg (by omega) (by decide)
    have zW : Sz 24 (wS ws (i :: π) : Rat) := sz_int (by omega) (by decide)
    have zk : Sz 110 (k : Rat) := sz_int (by omega) (by decide)
    have zL : Sz (m + 111) (q - (k : Rat)) := (hq.sub zk).mono (by omega)
    have pW : (0 : Rat) < (wS ws (i :: π) : Rat) := by exact_mod_cast (show 0 < wS ws (i :: π) by omega)
    have nW : (wS ws (i :: π) : Rat) ≠ 0 := fun z => by rw [z] at pW; exact absurd pW (by decide)
    have pw : ∀ j, j < cs.length → 0 < cR ws j := fun j hj => by
      have := (hW.at hj).1
      unfold cR
      exact_mod_cast (show 0 < ws.getD j 0 by omega)
    have e1 : wS ws (i :: π) - ws.getD i 0 = wS ws π := by rw [wS_cons]; omega
    have eW : (wS ws (i :: π) : Rat) = cR ws i + (wS ws π : Rat) := by rw [wS_cons, Rat.intCast_add]; rfl
    have pV : (0 : Rat) ≤ (wS ws π : Rat) := by exact_mod_cast (show 0 ≤ wS ws π by omega)
    generalize hL : q - (k : Rat) = L at h6 h7 h8 zL ⊢
    have loop1 : ∀ {a : Rat} {l' W' s' t' : Sl} {am' : List D}, mn (L * cR ws i / (wS ws (i :: π) : Rat)) (cR cs i) = a → loop (gName 6) b_even_dealt_5 (natsD π) [.val (.lst (ws.map D.int)), .val (.lst (cs.map D.int)), qv, .val (dq (L - a)), .val (.int (wS ws π)), .own (am.set i (dq a)), .val (.int (i : Nat)), .val (dq (L * cR ws i / (wS ws (i :: π) : Rat)))] = .ok (.nx [.val (.lst (ws.map D.int)), .val (.lst (cs.map D.int)), qv, l', W', .own am', s', t']) →
        loop (gName 6) b_even_dealt_5 (natsD (i :: π)) [.val (.lst (ws.map D.int)), .val (.lst (cs.map D.int)), qv, .val (dq L), .val (.int (wS ws (i :: π))), .own am, s6, s7] = .ok (.nx [.val (.lst (ws.map D.int)), .val (.lst (cs.map D.int)), qv, l', W', .own am', s', t']) := fun {a l' W' s' t' am'} ea e => by
      have tn := ev_turn (qv := qv) (s7 := s7) (W := wS ws (i :: π)) (am := am) hW hc hm (zL.mono (by omega)) (by omega) (by omega) hi h4 ea
      rw [e1] at tn
      show loop _ _ (.int (i : Nat) :: natsD π) _ = _
      rw [loop_cons rfl tn]
      exact e
    by_cases hx : L * cR ws i / (wS ws (i :: π) : Rat) < cR cs i
    · obtain ⟨x1, x2⟩ := turn_open pW hx
      generalize hr : L / (wS ws (i :: π) : Rat) = r at x1 x2
      have zr : Sz (m + 135) r := hr ▸ (zL.div zW nW).mono (by omega)
      have eL : L = r * (wS ws (i :: π) : Rat) := by rw [← hr, Rat.div_mul_cancel nW]
      have wr : cR ws i * r ≤ cR cs i := by
        have e : L * cR ws i / (wS ws (i :: π) : Rat) = cR ws i * r := by rw [← hr]; grind
        rw [e] at hx; exact Rat.le_of_lt hx
      have later : ∀ j ∈ π, cR ws j * r ≤ cR cs j := fun j hj => lvl_later (pw i hi) (pw j (h1' j hj)) (p1 j hj) wr
      have gj : ∀ j ∈ i :: π, gets (cR cs) (cR ws) r j = cR ws j * r := fun j hj => by
        have : cR ws j * r ≤ cR cs j := by
          rcases List.mem_cons.mp hj with rfl | hj
          · exact wr
          · exact later j hj
        unfold gets mn
        grind
      have e2 : L - cR ws i * r = r * (wS ws π : Rat) := by rw [eL, eW]; grind
      obtain ⟨l', W', s', t', e⟩ := even_flat (qv := qv) hm hW hc (zr.mono (by omega)) π (am.set i (dq (cR ws i * r))) (.val (.int (i : Nat))) (.val (dq (L * cR ws i / (wS ws (i :: π) : Rat)))) h1' later (by omega) (by rw [List.length_set]; exact h4)
      refine ⟨r, Rat.le_of_mul_le_mul_right (by rw [← eL]; exact h8) pW, ?_, fun j hj => ?_, l', W', s', t', loop1 (a := cR ws i * r) (x1.trans x2) ?_⟩
      · rw [muls_congr gj, muls_scale, wS_muls, ← eL]
      · rw [gj j hj]
        have v := hW.at (h1 j hj)
        exact (Sz.mul (m := 20) (n := m + 135) (sz_int (by omega) (by decide)) zr).mono (by omega)
      · rw [e2, e, List.map_cons, setAll, gj i List.mem_cons_self]
        rw [List.map_congr_left (g := fun j => (j, gets (cR cs) (cR ws) r j)) fun j hj => by rw [gj j (List.mem_cons_of_mem _ hj)]]
    · have ea : mn (L * cR ws i / (wS ws (i :: π) : Rat)) (cR cs i) = cR cs i := if_neg hx
      obtain ⟨b', g1, g2, g3⟩ := full_bound (pw i hi) hx pW h8
      have ek2 : q - ((k + cs.getD i 0 : Int) : Rat) = L - cR cs i := by rw [Rat.intCast_add, ← hL]; show q - ((k : Rat) + cR cs i) = _; grind
      have c0 : 0 ≤ cR cs i := by unfold cR; exact_mod_cast c1
      have cL : cR cs i ≤ L := by
        have y := Rat.mul_le_mul_of_nonneg_right (Rat.not_lt.mp hx) (Rat.le_of_lt pW)
        rw [Rat.div_mul_cancel nW] at y
        have y2 : L * cR ws i ≤ L * (wS ws (i :: π) : Rat) := Rat.mul_le_mul_of_nonneg_left (by rw [eW]; grind) h6
        exact Rat.le_of_mul_le_mul_right (Rat.le_trans y y2) pW
      rw [muls_cons] at h7
      have g3' : b' * (wS ws π : Rat) ≤ L - cR cs i := by
        rw [eW] at g3
        have : cR ws i + (wS ws π : Rat) - cR ws i = (wS ws π : Rat) := by grind
        rw [this] at g3; exact g3
      obtain ⟨t, t1, t2, tz, l', W', s', t', e⟩ := even_fill (qv := qv) hm hW hc hq π (k + cs.getD i 0) b' (am.set i (dq (cR cs i))) (.val (.int (i : Nat))) (.val (dq (L * cR ws i / (wS ws (i :: π) : Rat)))) h1' p2 (by omega) (by rw [List.length_set]; exact h4) (by omega) (by omega) (by rw [ek2]; grind) (by rw [ek2]; grind) (by rw [ek2]; exact g3')
      have gi : gets (cR cs) (cR ws) t i = cR cs i := by
        have := Rat.mul_le_mul_of_nonneg_left t1 (Rat.le_of_lt (pw i hi))
        unfold gets mn
        grind
      rw [ek2] at e t2
      refine ⟨t, Rat.le_trans g1 t1, ?_, fun j hj => ?_, l', W', s', t', loop1 ea ?_⟩
      · rw [muls_cons, gi, t2]; grind
      · rcases List.mem_cons.mp hj with rfl | hj
        · rw [gi]; exact Sz.mono (m := 100) (sz_int (by omega) (by decide)) (by omega)
        · exact tz j hj
      · rw [e, List.map_cons, setAll, gi]

theorem setAll_get {g : Nat → Rat} : ∀ (π : List Nat) (am : List D) (j : Nat), (setAll (π.map fun i => (i, g i)) am)[j]? = if j ∈ π then (if j < am.length then some (dq (g j)) else none) else am[j]?
  | [], am, j => by simp [setAll]
  | i :: π, am, j => by
    rw [List.map_cons, setAll, setAll_get π, List.length_set]
    by_cases h1 : j ∈ π
    · rw [if_pos h1, if_pos (List.mem_cons_of_mem _ h1)]
    · rw [if_neg h1]
      by_cases h2 : j = i
      · subst h2
        rw [if_pos List.mem_cons_self]
        by_cases h3 : j < am.length
        · rw [if_pos h3]; exact List.getElem?_set_self h3
        · rw [if_neg h3, List.getElem?_eq_none (by rw [List.length_set]; omega)]
      · rw [if_neg (by simp [h1, h2]), List.getElem?_set_ne (fun z => h2 z.symm)]
theorem setAll_all {g : Nat → Rat} {π : List Nat} {n : Nat} (h : π.Perm (List.range n)) : setAll (π.map fun i => (i, g i)) (List.replicate n (dq 0)) = ((List.range n).map g).map dq := by
  refine List.ext_getElem? fun j => ?_
  rw [setAll_get, List.getElem?_map, List.getElem?_map, List.length_replicate]
  by_cases hj : j < n
  · rw [if_pos (h.mem_iff.mpr (List.mem_range.mpr hj)), if_pos hj, List.getElem?_range hj]; rfl
  · rw [if_neg (fun z => hj (List.mem_range.mp (h.mem_iff.mp z))), List.getElem?_eq_none (by rw [List.length_replicate]; omega), List.getElem?_eq_none (by rw [List.length_range]; omega)]; rfl
theorem rank_ex (kz : List Int) : ∃ π, IsRank kz π := by
  refine ⟨(List.range kz.length).mergeSort (fun i j => decide (kz.getD i 0 ≤ kz.getD j 0)), List.mergeSort_perm _ _, ?_⟩
  have := List.pairwise_mergeSort (le := fun i j => decide (kz.getD i 0 ≤ kz.getD j 0)) (fun a b c h1 h2 => by simp only [decide_eq_true_eq] at *; omega) (fun a b => by simp only [Bool.or_eq_true, decide_eq_true_eq]; omega) (List.range kz.length)
  exact this.imp fun h => of_decide_eq_true h
theorem sRank_i {fs : Fv} {kf : List D → Res (List Int)} {g : Gv} {b r : Sv} {ρ : Rho} {kz : List Int} {x : Res Fl} (h1 : (fs ρ).bind kf = .ok kz) (h : ∀ π, IsRank kz π → sSeq (fun ρ => loop g b (natsD π) ρ) r ρ = x) : sRank fs kf g b r ρ = x := by
  obtain ⟨π, hπ⟩ := rank_ex kz
  unfold sRank
  rw [h1]
  exact allRank_of hπ h
/-! the levels, over one bottom -/
noncomputable def dens : List Rat → Int
  | [] => 1
  | x :: r => x.den * dens r
noncomputable def keyR (B : Int) (x : Rat) : Int := x.num * B.fdiv x.den
theorem dens_dvd : ∀ {l : List Rat} {x : Rat}, x ∈ l → (x.den : Int) ∣ dens l
  | y :: r, x, h => by
    rcases List.mem_cons.mp h with rfl | h
    · exact ⟨dens r, rfl⟩
    · exact Int.dvd_trans (dens_dvd h) ⟨y.den, Int.mul_comm _ _⟩
theorem dens_pos : ∀ l : List Rat, 0 < dens l
  | [] => by decide
  | x :: r => Int.mul_pos (den_pos x) (dens_pos r)
theorem key_is {l : List Rat} {x : Rat} (h : x ∈ l) : ((keyR (dens l) x : Int) : Rat) = x * (dens l : Rat) := by
  obtain ⟨k, hk⟩ := dens_dvd h
  have d0 := den_pos x
  unfold keyR
  rw [fdiv_pos _ d0, hk, Int.mul_ediv_cancel_left _ (by omega), Rat.intCast_mul, Rat.intCast_mul]
  have e : x * ((x.den : Int) : Rat) = (x.num : Rat) := by
    have h1 := Rat.num_divInt_den x
    rw [Rat.divInt_eq_div] at h1
    have h2 : ((x.den : Int) : Rat) ≠ 0 := fun z => by
      have : (x.den : Int) = 0 := by exact_mod_cast z
      omega
    rw [← Rat.div_mul_cancel (a := (x.num : Rat)) h2, h1]
  rw [← e]
  grind
theorem rank_loop {a : Sl} : ∀ (l : List Rat) (B : Int) (s : Sl) (m : Nat), (∀ x ∈ l, (x.den : Int) ≤ 10 ^ 6) → B.natAbs < 2 ^ m → m + 20 * l.length ≤ 1000 →
    ∃ s', loop (gName 2) b_ranked_3 (l.map dq) [a, .val (.int B), s] = .ok (.nx [a, .val (.int (B * dens l)), s']) ∧ (B * dens l).natAbs < 2 ^ (m + 20 * l.length)
  | [], B, s, m, _, h2, _ => ⟨s, by rw [List.map_nil, loop, dens, Int.mul_one], by rw [dens, Int.mul_one]; exact h2⟩
  | x :: r, B, s, m, h1, h2, h3 => by
    have d1 := h1 x List.mem_cons_self
    have d0 := den_pos x
    rw [List.length_cons] at h3
    have hx : ((x.den : Int)).natAbs < 2 ^ 20 := by omega
    obtain ⟨s', e, hb⟩ := rank_loop r (B * x.den) (.val (dq x)) (m + 20) (fun y hy => h1 y (List.mem_cons_of_mem _ hy)) (mul_lt h2 hx) (by omega)
    have ed : B * dens (x :: r) = B * x.den * dens r := by rw [dens, Int.mul_assoc]
    refine ⟨s', ?_, by rw [ed, List.length_cons, show m + 20 * (r.length + 1) = m + 20 + 20 * r.length by omega]; exact hb⟩
    rw [ed, ← e, List.map_cons]
    refine loop_cons (ρ1 := [a, .val (.int B), .val (dq x)]) rfl ?_
    walk_at "ev"
    rw [oMul_i (okMul_of (m := m) (n := 20) h2 hx (by omega))]
    walk_at "ev"
theorem keysD_is {B : Int} (hB : B.natAbs < 2 ^ 1000) : ∀ {l : List Rat}, (∀ x ∈ l, (x.den : Int) ≤ 10 ^ 6 ∧ Sz 500 x) → keysD B (l.map dq) = .ok (l.map (keyR B))
  | [], _ => rfl
  | x :: r, h => by
    obtain ⟨d1, z⟩ := h x List.mem_cons_self
    have d0 := den_pos x
    have e1 : okDiv (x.den : Int) = true := okDiv_of (m := 20) (by omega) (by omega) (by decide)
    have e2 : okMul x.num (B.fdiv x.den) = true := by
      rw [fdiv_pos _ d0]
      refine okMul_of (m := 500) (n := 1000) z.1 (Nat.lt_of_le_of_lt ?_ hB) (by decide)
      exact Int.natAbs_ediv_le_natAbs _ _
    have k1 : keyD B (dq x) = .ok (keyR B x) := by
      show (if (okDiv (x.den : Int) && okMul x.num (B.fdiv x.den)) = true then Res.ok _ else .no) = _
      rw [e1, e2]; rfl
    rw [List.map_cons, keysD, k1]
    show ((keysD B (r.map dq)).bind fun ks => Res.ok (keyR B x :: ks)) = _
    rw [keysD_is hB fun y hy => h y (List.mem_cons_of_mem _ hy)]
    rfl
theorem f_k_ranked {l : List Rat} (h : ∀ x ∈ l, (x.den : Int) ≤ 10 ^ 6 ∧ Sz 500 x) (hl : l.length ≤ 12) : k_ranked [.lst (l.map dq)] = .ok (l.map (keyR (dens l))) := by
  obtain ⟨s', e, hb⟩ := rank_loop (a := .val (.lst (l.map dq))) l 1 .un 1 (fun x hx => (h x hx).1) (by decide) (by omega)
  rw [Int.one_mul] at e hb
  have r1 : r1_ranked (start 3 [.lst (l.map dq)]) = .ok (.nx [.val (.lst (l.map dq)), .val (.int 1), .un]) := rfl
  have r2 : r2_ranked [.val (.lst (l.map dq)), .val (.int 1), .un] = .ok (.nx [.val (.lst (l.map dq)), .val (.int (dens l)), s']) := by
    walk_at "ev"
    exact e
  unfold k_ranked kRank
  rw [if_pos (show [D.lst (l.map dq)].length = 1 from rfl), r1]
  show (match r2_ranked [.val (.lst (l.map dq)), .val (.int 1), .un] with | .ok (.nx ρ') => keysAt ρ' | _ => .no) = _
  rw [r2]
  show (if (l.map dq).length < 64 then keysD (dens l) (l.map dq) else .no) = _
  rw [if_pos (by rw [List.length_map]; omega)]
  exact keysD_is (Nat.lt_of_lt_of_le hb (Nat.pow_le_pow_right (by decide) (by omega))) h

noncomputable def lvs (ws cs : List Int) : List Rat := (cs.zip ws).map fun p => Rat.divInt p.1 p.2
theorem lvs_len {ws cs : List Int} (h : ws.length = cs.length) : (lvs ws cs).length = cs.length := by unfold lvs; rw [List.length_map, List.length_zip, h, Nat.min_self]
theorem lvs_at {ws cs : List Int} {i : Nat} (h : ws.length = cs.length) (hi : i < cs.length) : (lvs ws cs)[i]? = some (cR cs i / cR ws i) := by
  unfold lvs
  rw [List.getElem?_map]
  have : (cs.zip ws)[i]? = some (cs.getD i 0, ws.getD i 0) := by
    rw [List.getElem?_zip_eq_some]
    exact ⟨at_getD hi, at_getD (by omega)⟩
  rw [this]
  show some (Rat.divInt _ _) = _
  rw [Rat.divInt_eq_div]
  rfl
theorem den_le {t b : Int} (hb : 0 < b) : ((Rat.divInt t b).den : Int) ≤ b := by
  have e := den_eq (t := t) (b := b) (by omega)
  have d0 : 0 ≤ dv t b := by unfold dv; rw [if_neg (by omega)]; exact Int.natCast_nonneg _
  rw [← e, fdiv_nn _ d0]
  exact Int.ediv_le_self _ (by omega)
theorem lvs_ok {ws cs : List Int} (hW : Wt ws cs) (hc : ∀ c ∈ cs, 0 ≤ c ∧ c < 10 ^ 30) : ∀ x ∈ lvs ws cs, (x.den : Int) ≤ 10 ^ 6 ∧ Sz 500 x := fun x hx => by
  obtain ⟨p, hp, rfl⟩ := List.mem_map.mp hx
  obtain ⟨h1, h2⟩ := List.of_mem_zip hp
  have c := hc _ h1
  have w1 := hW.lo _ h2
  have w2 := hW.up _ h2
  have d := den_le (t := p.1) (b := p.2) (by omega)
  exact ⟨by omega, Sz.of (by omega) (by omega) (by omega)⟩
theorem f_levels_of {ws cs : List Int} (hW : Wt ws cs) (hl : cs.length ≤ 12) : m_levels_of [.lst (ws.map D.int), .lst (cs.map D.int)] = .ok (.f ((lvs ws cs).map dq)) := by
  have hw := hW.len
  unfold m_levels_of
  walk_at "ev"
  rw [zipF_of rfl rfl]
  walk_at "ev"
  rw [comp2F_of (u := D.int) (v := D.int) (g := fun c w => dq (Rat.divInt c w)) (by omega) (fun p hp => by
    have h2 := (List.of_mem_zip hp).2
    have w1 := hW.lo _ h2
    have w2 := hW.up _ h2
    walk_at "ev"
    rw [f_made (n := 20) (by omega) (by omega) (by decide)]
    walk_at "ev")]
  walk_at "ev"
  unfold lvs
  rw [List.map_map]
  rfl
theorem wS_range (ws : List Int) : ∀ n, n ≤ ws.length → wS ws (List.range n) = (ws.take n).sum
  | 0, _ => rfl
  | n + 1, h => by
    have e : wS ws (List.range n ++ [n]) = wS ws (List.range n) + ws.getD n 0 := by unfold wS; rw [List.map_append, List.sum_append]; simp
    rw [List.range_succ, e, wS_range ws n (by omega), List.take_succ, List.sum_append, at_getD (show n < ws.length by omega)]
    simp
theorem wS_perm {ws : List Int} {π : List Nat} (h : π.Perm (List.range ws.length)) : wS ws π = ws.sum := by
  have e := wS_muls ws π
  rw [muls_perm h, wS_muls, wS_range ws _ (Nat.le_refl _), List.take_length] at e
  have := Rat.intCast_inj.mp e
  omega
theorem sSeq_i {a b : Sv} {ρ ρ' : Rho} (h : a ρ = .ok (.nx ρ')) : sSeq a b ρ = b ρ' := by unfold sSeq; rw [h]; rfl
/-- what even deals: the level t, the same for each order -/
noncomputable def evs (ws cs : List Int) (t : Rat) : List Rat := (List.range cs.length).map (gets (cR cs) (cR ws) t)
theorem f_even_dealt {ws cs : List Int} {q : Rat} {m : Nat} (hmm : m ≤ 3000) (hW : Wt ws cs) (hc : Cl cs) (hq : Sz m q) (h0 : 0 ≤ q) (h1 : q ≤ (cs.sum : Rat)) : ∃ t, 0 ≤ t ∧ m_even_dealt [.lst (ws.map D.int), .lst (cs.map D.int), dq q] = .ok (.f ((evs ws cs t).map dq)) ∧ (evs ws cs t).sum = q ∧ ∀ i, i < cs.length → Sz (m + 155) (gets (cR cs) (cR ws) t i) := by
  have hcc : ∀ c ∈ cs, 0 ≤ c ∧ c < 10 ^ 30 := fun c h => ⟨hc.nn c h, hc.up c h⟩
  have hi := hc.hi
  have hw := hW.len
  have hkr := f_k_ranked (lvs_ok hW hcc) (by rw [lvs_len hw]; exact hi)
  generalize hkz : (lvs ws cs).map (keyR (dens (lvs ws cs))) = kz at hkr
  have lz : kz.length = cs.length := by rw [← hkz, List.length_map, lvs_len hw]
  have pw : ∀ j, j < cs.length → 0 < cR ws j := fun j hj => by
    have := (hW.at hj).1
    unfold cR
    exact_mod_cast (show 0 < ws.getD j 0 by omega)
  have one : ∀ π, IsRank kz π → ∃ t, 0 ≤ t ∧ muls (gets (cR cs) (cR ws) t) (List.range cs.length) = q ∧ (∀ i, i < cs.length → Sz (m + 155) (gets (cR cs) (cR ws) t i)) ∧ sSeq (fun ρ => loop (gName 6) b_even_dealt_5 (natsD π) ρ) b_even_dealt_9 [.val (.lst (ws.map D.int)), .val (.lst (cs.map D.int)), .val (dq q), .val (dq q), .val (.int ws.sum), .own (List.replicate cs.length (dq 0)), .un, .un] = .ok (.ret (.f ((evs ws cs t).map dq))) := by
    intro π hπ
    obtain ⟨hp, ho⟩ := hπ
    rw [lz] at hp
    have hm : ∀ i ∈ π, i < cs.length := fun i h => List.mem_range.mp (hp.mem_iff.mp h)
    have hl : π.length = cs.length := by rw [hp.length_eq, List.length_range]
    have B0 := dens_pos (lvs ws cs)
    have B0' : (0 : Rat) < (dens (lvs ws cs) : Rat) := by exact_mod_cast B0
    have kat : ∀ i, i < cs.length → ((kz.getD i 0 : Int) : Rat) = cR cs i / cR ws i * (dens (lvs ws cs) : Rat) := fun i h => by
      have e := lvs_at hw h
      have e2 : kz.getD i 0 = keyR (dens (lvs ws cs)) (cR cs i / cR ws i) := by rw [← hkz, List.getD_eq_getElem?_getD, List.getElem?_map, e]; rfl
      rw [e2]
      exact key_is (List.mem_of_getElem? e)
    have ord : π.Pairwise (fun i j => cR cs i * cR ws j ≤ cR cs j * cR ws i) := by
      refine List.Pairwise.imp_of_mem (fun {i j} h1 h2 h3 => ?_) ho
      have h4 : ((kz.getD i 0 : Int) : Rat) ≤ ((kz.getD j 0 : Int) : Rat) := Rat.intCast_le_intCast.mpr h3
      rw [kat i (hm i h1), kat j (hm j h2)] at h4
      have h5 := Rat.le_of_mul_le_mul_right h4 B0'
      have wi := pw i (hm i h1)
      have wj := pw j (hm j h2)
      have h6 := Rat.mul_le_mul_of_nonneg_right h5 (Rat.le_of_lt (Rat.mul_pos wi wj))
      have e1 : cR cs i / cR ws i * (cR ws i * cR ws j) = cR cs i * cR ws j := by grind
      have e2 : cR cs j / cR ws j * (cR ws i * cR ws j) = cR cs j * cR ws i := by grind
      rwa [e1, e2] at h6
    have hW' : wS ws π = ws.sum := wS_perm (by rw [hw]; exact hp)
    have hC' : muls (cR cs) π = (cs.sum : Rat) := by rw [wS_muls, wS_perm hp]
    have z0 : q - ((0 : Int) : Rat) = q := by rw [show ((0 : Int) : Rat) = 0 from rfl]; grind
    obtain ⟨t, t1, t2, tz, l', W', s', t', e⟩ := even_fill (qv := .val (dq q)) hmm hW hcc hq π 0 0 (List.replicate cs.length (dq 0)) .un .un hm ord (by omega) (by rw [List.length_replicate]) (by decide) (by rw [hl]; omega) (by rw [z0]; exact h0) (by rw [z0, hC']; exact h1) (by rw [z0]; grind)
    rw [z0, hW'] at e
    rw [z0] at t2
    refine ⟨t, t1, by rw [← muls_perm hp]; exact t2, fun i h => tz i (hp.mem_iff.mpr (List.mem_range.mpr h)), ?_⟩
    refine (sSeq_i (a := fun ρ => loop (gName 6) b_even_dealt_5 (natsD π) ρ) e).trans ?_
    rw [setAll_all hp]
    rfl
  obtain ⟨π0, hπ0⟩ := rank_ex kz
  obtain ⟨t, t1, t2, tz, e0⟩ := one π0 hπ0
  have pw' : ∀ i ∈ List.range cs.length, 0 < cR ws i := fun i h => pw i (List.mem_range.mp h)
  refine ⟨t, t1, ?_, t2, tz⟩
  unfold m_even_dealt
  walk_at "ev"
  rw [repG_1 (by omega)]
  walk_at "ev"
  have hfs : Res.bind ((aCons (eF (fCall m_levels_of (aCons (eVar 0) (aCons (eVar 1) aNil)))) aNil) [.val (.lst (ws.map D.int)), .val (.lst (cs.map D.int)), .val (dq q), .val (dq q), .val (.int ws.sum), .own (List.replicate cs.length (dq 0)), .un, .un]) k_ranked = .ok kz := by
    walk_at "ev"
    rw [f_levels_of hW hi]
    walk_at "ev"
    exact hkr
  have hall : ∀ π, IsRank kz π → sSeq (fun ρ => loop (gName 6) b_even_dealt_5 (natsD π) ρ) b_even_dealt_9 [.val (.lst (ws.map D.int)), .val (.lst (cs.map D.int)), .val (dq q), .val (dq q), .val (.int ws.sum), .own (List.replicate cs.length (dq 0)), .un, .un] = .ok (.ret (.f ((evs ws cs t).map dq))) := fun π hπ => by
    obtain ⟨u, _, u2, _, eu⟩ := one π hπ
    rw [eu]
    unfold evs
    rw [List.map_congr_left (gets_one pw' (u2.trans t2.symm))]
  unfold b_even_dealt_4
  rw [sRank_i hfs hall]
  rfl

/-! ### half -/
noncomputable def ones (cs : List Int) : List Int := List.replicate cs.length 1
theorem ones_wt (cs : List Int) : Wt (ones cs) cs := ⟨List.length_replicate, fun w h => by rw [(List.mem_replicate.mp h).2]; decide, fun w h => by rw [(List.mem_replicate.mp h).2]; decide⟩
noncomputable def hf : Rat := Rat.divInt 1 2
theorem hf_is : hf = 1 / 2 := by unfold hf; rw [Rat.divInt_eq_div]; rfl
theorem dq_hf : d_HALF = dq hf := dq_one (b := 2) (by decide)
theorem sz_hf : Sz 2 hf := Sz.of (by decide) (by decide) (by decide)
theorem dbl (q : Rat) : q + q = q * ((2 : Int) : Rat) := by rw [show ((2 : Int) : Rat) = 2 from rfl]; grind
theorem sz_dbl {q : Rat} {n : Nat} (h : Sz n q) : Sz (n + 2) (q + q) := by rw [dbl]; exact h.mul (sz_int (by decide) (by decide))
noncomputable def hvs (cs : List Int) (t : Rat) : List Rat := (List.range cs.length).map fun i => gets (cR cs) (cR (ones cs)) t i * hf
/-- a level that deals q -/
structure Lvl (M : Nat) (ws cs : List Int) (q t : Rat) : Prop where
  nn : 0 ≤ t
  sum : (evs ws cs t).sum = q
  sz : ∀ i, i < cs.length → Sz M (gets (cR cs) (cR ws) t i)
theorem f_half_dealt {cs : List Int} {q : Rat} {m : Nat} (hm : m ≤ 2990) (hc : Cl cs) (hq : Sz m q) (h0 : 0 ≤ q) (h1 : q + q ≤ (cs.sum : Rat)) : ∃ t, Lvl (m + 157) (ones cs) cs (q + q) t ∧ m_half_dealt [.lst (cs.map D.int), dq q] = .ok (.f ((hvs cs t).map dq)) := by
  have hi := hc.hi
  obtain ⟨t, t1, e, t2, tz⟩ := f_even_dealt (m := m + 2) (by omega) (ones_wt cs) hc (sz_dbl hq) (by grind) h1
  refine ⟨t, ⟨t1, t2, fun i h => (tz i h).mono (by omega)⟩, ?_⟩
  have eo : (ones cs).map D.int = List.replicate cs.length (.int 1) := by unfold ones; rw [List.map_replicate]
  rw [eo] at e
  have hh := dq_hf
  unfold d_HALF at hh
  unfold m_half_dealt
  walk_at "ev"
  rw [repG_1 (by omega)]
  walk_at "ev"
  rw [f_plus hq hq (by omega)]
  walk_at "ev"
  rw [e]
  walk_at "ev"
  rw [show (evs (ones cs) cs t).map dq = (List.range cs.length).map (fun i => dq (gets (cR cs) (cR (ones cs)) t i)) by unfold evs; rw [List.map_map]; rfl]
  rw [compF_of (u := fun i => dq (gets (cR cs) (cR (ones cs)) t i)) (g := fun i => dq (gets (cR cs) (cR (ones cs)) t i * hf)) (by rw [List.length_range]; omega) (fun i h => by
    have hil := List.mem_range.mp h
    walk_at "ev"
    rw [hh, f_times (tz i hil) sz_hf (by omega)]
    walk_at "ev")]
  walk_at "ev"
  unfold hvs
  rw [List.map_map]
  rfl
theorem Lvl.mono {M M' : Nat} {ws cs : List Int} {q t : Rat} (h : Lvl M ws cs q t) (l : M ≤ M') : Lvl M' ws cs q t := ⟨h.nn, h.sum, fun i hi => (h.sz i hi).mono l⟩

theorem f_refuse_way {w v : Str} (h : t_CONTRARY.lookup w = some v) : m_refuse_way [.str w] = .ok (.v .non) := by
  unfold m_refuse_way
  walk_at "ev"
  rw [h]
  rfl
theorem f_refuse_claims {cs : List Int} (hc : Cl cs) : m_refuse_claims [.lst (cs.map D.int)] = .ok (.v .non) := by
  have lo := hc.lo
  unfold m_refuse_claims
  walk_at "ev"
  rw [decide_eq_false (by omega)]
  walk_at "ev"
  refine loop_go (Q := fun r => r = (.ok (.v .non) : Res Rt)) (fun ρ => ∃ a, ρ = [.val (.lst (cs.map D.int)), a]) ⟨_, rfl⟩ ?_ ?_
  · rintro e ρ he ⟨a, rfl⟩
    obtain ⟨c, h, rfl⟩ := List.mem_map.mp he
    have := hc.nn c h
    refine ⟨_, ?_, .val (.int c), rfl⟩
    walk_at "ev"
    rw [decide_eq_false (by omega)]
    walk_at "ev"
  · rintro ρ ⟨a, rfl⟩
    rfl
theorem f_refuse_outside {q : Rat} {W : Int} {m : Nat} (hm : m ≤ 3000) (h : Haul m q W) (hW : W.natAbs < 2 ^ 110) : m_refuse_outside [dq q, dq (W : Rat)] = .ok (.v .non) := by
  have z0 : Sz 1 (0 : Rat) := ⟨by decide, by decide⟩
  have zW : Sz 110 (W : Rat) := sz_int hW (by decide)
  have n1 : ¬ q < 0 := Rat.not_lt.mpr h.nn
  have n2 : ¬ (W : Rat) < q := Rat.not_lt.mpr h.up
  have io : m_is_outside [dq q, dq (W : Rat)] = .ok (.v (.bl false)) := by
    unfold m_is_outside
    walk_at "ev"
    rw [f_less h.sz z0 (by omega), decide_eq_false n1]
    walk_at "ev"
    rw [f_less zW h.sz (by omega), decide_eq_false n2]
    walk_at "ev"
  unfold m_refuse_outside
  walk_at "ev"
  rw [io]
  walk_at "ev"
theorem zip_range {α β : Type} (l : List α) (f : Nat → β) (d : α) : l.zip ((List.range l.length).map f) = (List.range l.length).map fun i => (l.getD i d, f i) := by
  refine List.ext_getElem? fun i => ?_
  rw [List.getElem?_map]
  by_cases h : i < l.length
  · rw [List.getElem?_range h]
    refine List.getElem?_zip_eq_some.mpr ⟨?_, by rw [List.getElem?_map, List.getElem?_range h]; rfl⟩
    show l[i]? = some (l.getD i d)
    rw [List.getD_eq_getElem?_getD, List.getElem?_eq_getElem h]; rfl
  · rw [List.getElem?_eq_none (by rw [List.length_zip]; omega), List.getElem?_eq_none (by rw [List.length_range]; omega)]; rfl
theorem f_refuse_weights {w : Str} {d : D} {n : Int} (hd : d = .lst [] ∨ d = .tup []) (hw : oIn (.str w) d_WEIGHTED = .ok (.bl false)) : m_refuse_weights [.str w, d, .int n] = .ok (.v .non) := by
  have sq : seqD d = .ok [] := by rcases hd with rfl | rfl <;> rfl
  have ln : bLen [d] = .ok (.int 0) := by rcases hd with rfl | rfl <;> rfl
  unfold d_WEIGHTED at hw
  unfold m_refuse_weights
  walk_at "ev"
  rw [hw]
  walk_at "ev"
  rw [ln]
  walk_at "ev"
  rw [sq]
  rfl
theorem okp6 : okPow 10 6 = true := by decide
theorem f_weights_due {w : Str} {ws cs : List Int} (hW : Wt ws cs) (hw : oIn (.str w) d_WEIGHTED = .ok (.bl true)) : m_refuse_weights [.str w, .lst (ws.map D.int), .int cs.length] = .ok (.v .non) := by
  have hl := hW.len
  unfold d_WEIGHTED at hw
  unfold m_refuse_weights
  walk_at "ev"
  rw [hw]
  walk_at "ev"
  rw [hl, decide_eq_true rfl]
  walk_at "ev"
  refine loop_go (Q := fun r => r = (.ok (.v .non) : Res Rt)) (fun ρ => ∃ a, ρ = [.val (.str w), .val (.lst (ws.map D.int)), .val (.int cs.length), .val (.int cs.length), a]) ⟨_, rfl⟩ ?_ ?_
  · rintro e ρ he ⟨a, rfl⟩
    obtain ⟨c, h, rfl⟩ := List.mem_map.mp he
    have h1 := hW.lo c h
    have h2 := hW.up c h
    refine ⟨_, ?_, .val (.int c), rfl⟩
    walk_at "ev"
    rw [decide_eq_false (by omega)]
    walk_at "ev"
    rw [oPow_i okp6]
    walk_at "ev"
    rw [decide_eq_false (by omega)]
    walk_at "ev"
  · rintro ρ ⟨a, rfl⟩
    rfl
theorem s_er : (Str.ofString "even" == Str.ofString "row") = false := by decide
theorem s_lr : (Str.ofString "lack" == Str.ofString "row") = false := by decide
theorem s_le : (Str.ofString "lack" == Str.ofString "even") = false := by decide
theorem s_lp : (Str.ofString "lack" == Str.ofString "part") = false := by decide
theorem s_lh : (Str.ofString "lack" == Str.ofString "half") = false := by decide
theorem way_even : (t_CONTRARY.lookup (Str.ofString "even")) = some (Str.ofString "lack") := by decide
theorem way_lack : (t_CONTRARY.lookup (Str.ofString "lack")) = some (Str.ofString "even") := by decide
theorem f_even {n : Nat} {ws cs : List Int} {q : Rat} {m : Nat} (hm : m ≤ 3000) (hW : Wt ws cs) (hc : Cl cs) (hq : Sz m q) (h0 : 0 ≤ q) (h1 : q ≤ (cs.sum : Rat)) : ∃ t, Lvl (m + 155) ws cs q t ∧ m_rightly_dealt (n + 1) [.str (Str.ofString "even"), .lst (ws.map D.int), .lst (cs.map D.int), dq q] = .ok (.f ((evs ws cs t).map dq)) := by
  obtain ⟨t, t1, e, t2, tz⟩ := f_even_dealt hm hW hc hq h0 h1
  refine ⟨t, ⟨t1, t2, tz⟩, ?_⟩
  show g_rightly_dealt (m_rightly_dealt n) _ = _
  unfold g_rightly_dealt
  walk_at "ev"
  rw [f_whole]
  walk_at "ev"
  rw [s_er]
  walk_at "ev"
  rw [e]
  walk_at "ev"
noncomputable def lks (ws cs : List Int) (t : Rat) : List Rat := (cs.zip (evs ws cs t)).map fun p => (p.1 : Rat) - p.2
theorem lks_is (ws cs : List Int) (t : Rat) : lks ws cs t = (List.range cs.length).map fun i => cR cs i - gets (cR cs) (cR ws) t i := by
  unfold lks evs
  rw [zip_range cs _ 0, List.map_map]
  rfl
theorem f_lack {n : Nat} {ws cs : List Int} {q : Rat} {m : Nat} (hm : m ≤ 2890) (hW : Wt ws cs) (hc : Cl cs) (hq : Haul m q cs.sum) : ∃ t, Lvl (m + 261) ws cs ((cs.sum : Rat) - q) t ∧ m_rightly_dealt (n + 2) [.str (Str.ofString "lack"), .lst (ws.map D.int), .lst (cs.map D.int), dq q] = .ok (.f ((lks ws cs t).map dq)) := by
  have sm := hc.sum
  have hi := hc.hi
  have zW : Sz 105 (cs.sum : Rat) := sz_int (by omega) (by decide)
  have zT : Sz (m + 106) ((cs.sum : Rat) - q) := (zW.sub hq.sz).mono (by omega)
  have u := hq.up
  have u' := hq.nn
  obtain ⟨t, tl, e⟩ := f_even (n := n) (m := m + 106) (by omega) hW hc zT (by grind) (by grind)
  refine ⟨t, tl, ?_⟩
  show g_rightly_dealt (m_rightly_dealt (n + 1)) _ = _
  unfold g_rightly_dealt
  walk_at "ev"
  rw [f_whole]
  walk_at "ev"
  rw [s_lr]
  walk_at "ev"
  rw [s_le]
  walk_at "ev"
  rw [s_lp]
  walk_at "ev"
  rw [s_lh]
  walk_at "ev"
  rw [show oTabAt t_CONTRARY (.str (Str.ofString "lack")) = .ok (.str (Str.ofString "even")) by show tabO (t_CONTRARY.lookup (Str.ofString "lack")) = _; rw [way_lack]; rfl]
  walk_at "ev"
  rw [f_minus zW hq.sz (by omega)]
  walk_at "ev"
  rw [e]
  walk_at "ev"
  rw [zipF_of rfl rfl]
  walk_at "ev"
  rw [comp2F_of (u := D.int) (v := dq) (g := fun c l => dq ((c : Rat) - l)) (by omega) (fun p hp => by
    have hp' := hp
    unfold evs at hp'
    rw [zip_range cs _ 0] at hp'
    obtain ⟨i, hir, rfl⟩ := List.mem_map.mp hp'
    have hil := List.mem_range.mp hir
    have c1 := hc.nn _ (List.mem_of_getElem? (at_getD hil))
    have c2 := hc.up _ (List.mem_of_getElem? (at_getD hil))
    walk_at "ev"
    rw [f_whole]
    walk_at "ev"
    rw [f_minus (m := 100) (n := m + 261) (sz_int (by omega) (by decide)) (tl.sz i hil) (by omega)]
    walk_at "ev")]
  walk_at "ev"
  unfold lks
  rw [List.map_map]
  rfl

theorem s_hr : (Str.ofString "half" == Str.ofString "row") = false := by decide
theorem s_he : (Str.ofString "half" == Str.ofString "even") = false := by decide
theorem s_hp : (Str.ofString "half" == Str.ofString "part") = false := by decide
theorem way_half : (t_CONTRARY.lookup (Str.ofString "half")) = some (Str.ofString "half") := by decide
theorem f_half1 {n : Nat} {e : D} {cs : List Int} {q : Rat} {m : Nat} (hm : m ≤ 2990) (hc : Cl cs) (hq : Sz m q) (h0 : 0 ≤ q) (h1 : q + q ≤ (cs.sum : Rat)) : ∃ t, Lvl (m + 157) (ones cs) cs (q + q) t ∧ m_rightly_dealt (n + 1) [.str (Str.ofString "half"), e, .lst (cs.map D.int), dq q] = .ok (.f ((hvs cs t).map dq)) := by
  have sm := hc.sum
  have zW : Sz 105 (cs.sum : Rat) := sz_int (by omega) (by decide)
  obtain ⟨t, tl, ee⟩ := f_half_dealt hm hc hq h0 h1
  refine ⟨t, tl, ?_⟩
  show g_rightly_dealt (m_rightly_dealt n) _ = _
  unfold g_rightly_dealt
  walk_at "ev"
  rw [f_whole]
  walk_at "ev"
  rw [s_hr]
  walk_at "ev"
  rw [s_he]
  walk_at "ev"
  rw [s_hp]
  walk_at "ev"
  rw [f_plus hq hq (by omega)]
  walk_at "ev"
  rw [f_less zW (sz_dbl hq) (by omega), decide_eq_false (Rat.not_lt.mpr h1)]
  walk_at "ev"
  rw [ee]
  walk_at "ev"
noncomputable def lhs (cs : List Int) (t : Rat) : List Rat := (List.range cs.length).map fun i => cR cs i - gets (cR cs) (cR (ones cs)) t i * hf
theorem f_half2 {n : Nat} {e : D} {cs : List Int} {q : Rat} {m : Nat} (hm : m ≤ 2880) (hc : Cl cs) (hq : Haul m q cs.sum) (h1 : (cs.sum : Rat) < q + q) : ∃ t, Lvl (m + 263) (ones cs) cs (((cs.sum : Rat) - q) + ((cs.sum : Rat) - q)) t ∧ m_rightly_dealt (n + 2) [.str (Str.ofString "half"), e, .lst (cs.map D.int), dq q] = .ok (.f ((lhs cs t).map dq)) := by
  have sm := hc.sum
  have hi := hc.hi
  have zW : Sz 105 (cs.sum : Rat) := sz_int (by omega) (by decide)
  have zT : Sz (m + 106) ((cs.sum : Rat) - q) := (zW.sub hq.sz).mono (by omega)
  have u := hq.up
  obtain ⟨t, tl, ee⟩ := f_half1 (n := n) (e := e) (m := m + 106) (by omega) hc zT (by grind) (by grind)
  refine ⟨t, tl, ?_⟩
  show g_rightly_dealt (m_rightly_dealt (n + 1)) _ = _
  unfold g_rightly_dealt
  walk_at "ev"
  rw [f_whole]
  walk_at "ev"
  rw [s_hr]
  walk_at "ev"
  rw [s_he]
  walk_at "ev"
  rw [s_hp]
  walk_at "ev"
  rw [f_plus hq.sz hq.sz (by omega)]
  walk_at "ev"
  rw [f_less zW (sz_dbl hq.sz) (by omega), decide_eq_true h1]
  walk_at "ev"
  rw [show oTabAt t_CONTRARY (.str (Str.ofString "half")) = .ok (.str (Str.ofString "half")) by show tabO (t_CONTRARY.lookup (Str.ofString "half")) = _; rw [way_half]; rfl]
  walk_at "ev"
  rw [f_minus zW hq.sz (by omega)]
  walk_at "ev"
  rw [ee]
  walk_at "ev"
  rw [zipF_of rfl rfl]
  walk_at "ev"
  rw [comp2F_of (u := D.int) (v := dq) (g := fun c l => dq ((c : Rat) - l)) (by omega) (fun p hp => by
    have hp' := hp
    unfold hvs at hp'
    rw [zip_range cs _ 0] at hp'
    obtain ⟨i, hir, rfl⟩ := List.mem_map.mp hp'
    have hil := List.mem_range.mp hir
    have c1 := hc.nn _ (List.mem_of_getElem? (at_getD hil))
    have c2 := hc.up _ (List.mem_of_getElem? (at_getD hil))
    walk_at "ev"
    rw [f_whole]
    walk_at "ev"
    rw [f_minus (m := 100) (n := m + 263 + 2) (sz_int (by omega) (by decide)) ((tl.sz i hil).mul sz_hf) (by omega)]
    walk_at "ev")]
  walk_at "ev"
  unfold hvs lhs
  rw [zip_range cs _ 0, List.map_map, List.map_map]
  rfl

theorem s_br : (Str.ofString "back" == Str.ofString "row") = false := by decide
theorem s_be : (Str.ofString "back" == Str.ofString "even") = false := by decide
theorem s_bp : (Str.ofString "back" == Str.ofString "part") = false := by decide
theorem s_bh : (Str.ofString "back" == Str.ofString "half") = false := by decide
theorem s_pr : (Str.ofString "part" == Str.ofString "row") = false := by decide
theorem s_pe : (Str.ofString "part" == Str.ofString "even") = false := by decide
theorem way_row : (t_CONTRARY.lookup (Str.ofString "row")) = some (Str.ofString "back") := by decide
theorem way_back : (t_CONTRARY.lookup (Str.ofString "back")) = some (Str.ofString "row") := by decide
theorem way_part : (t_CONTRARY.lookup (Str.ofString "part")) = some (Str.ofString "part") := by decide
theorem f_row {n : Nat} {d e : D} {cs : List Int} {q : Rat} (hd : d = .lst (cs.map D.int) ∨ d = .tup (cs.map D.int)) {m : Nat} (hm : m ≤ 3000) (hc : Cl cs) (hq : Sz m q) (h0 : 0 ≤ q) : m_rightly_dealt (n + 1) [.str (Str.ofString "row"), e, d, dq q] = .ok (.f ((fillR cs 0 q).map dq)) := by
  have su : bSum [d] = .ok (.int cs.sum) := by rcases hd with rfl | rfl; exact bSum_l; exact bSum_t
  show g_rightly_dealt (m_rightly_dealt n) _ = _
  unfold g_rightly_dealt
  walk_at "ev"
  rw [su]
  walk_at "ev"
  rw [f_whole]
  walk_at "ev"
  rw [f_row_dealt hd hm hc hq h0]
  walk_at "ev"
theorem f_part {n : Nat} {d e : D} {cs : List Int} {q : Rat} (hd : d = .lst (cs.map D.int) ∨ d = .tup (cs.map D.int)) {m : Nat} (hm : m ≤ 3000) (hc : Cl cs) (hq : Sz m q) : m_rightly_dealt (n + 1) [.str (Str.ofString "part"), e, d, dq q] = .ok (.f ((partR cs q).map dq)) := by
  have su : bSum [d] = .ok (.int cs.sum) := by rcases hd with rfl | rfl; exact bSum_l; exact bSum_t
  show g_rightly_dealt (m_rightly_dealt n) _ = _
  unfold g_rightly_dealt
  walk_at "ev"
  rw [su]
  walk_at "ev"
  rw [f_whole]
  walk_at "ev"
  rw [s_pr]
  walk_at "ev"
  rw [s_pe]
  walk_at "ev"
  rw [f_part_dealt hd hm hc hq]
  walk_at "ev"

theorem sum_loop {a b : Sl} : ∀ (l : List Rat) (T B : Int) (k : Nat) (s : Sl), (∀ x ∈ l, Sz 510 x) → T.natAbs < 2 ^ k → B.natAbs < 2 ^ k → 0 < B → k + 520 * l.length ≤ 10000 →
    ∃ T' B' s', loop (gName 4) b_law_sum_is_4 (l.map dq) [a, b, .val (.int T), .val (.int B), s] = .ok (.nx [a, b, .val (.int T'), .val (.int B'), s']) ∧ 0 < B' ∧ T'.natAbs < 2 ^ 10000 ∧ B'.natAbs < 2 ^ 10000 ∧ (T' : Rat) = ((T : Rat) / (B : Rat) + l.sum) * (B' : Rat)
  | [], T, B, k, s, _, h2, h3, h4, h5 => by
    have nB : (B : Rat) ≠ 0 := fun z => by
      have : B = 0 := by exact_mod_cast z
      omega
    have le : 2 ^ k ≤ 2 ^ 10000 := Nat.pow_le_pow_right (by decide) (by omega)
    refine ⟨T, B, s, by rw [List.map_nil, loop], h4, Nat.lt_of_lt_of_le h2 le, Nat.lt_of_lt_of_le h3 le, ?_⟩
    rw [List.sum_nil]
    grind
  | x :: r, T, B, k, s, h1, h2, h3, h4, h5 => by
    have zx := h1 x List.mem_cons_self
    have d0 := den_pos x
    rw [List.length_cons] at h5
    have m1 : (T * x.den).natAbs < 2 ^ (k + 510) := mul_lt h2 zx.d
    have m2 : (x.num * B).natAbs < 2 ^ (510 + k) := mul_lt zx.1 h3
    have m3 : (B * x.den).natAbs < 2 ^ (k + 510) := mul_lt h3 zx.d
    rw [Nat.add_comm 510 k] at m2
    have le1 : 2 ^ (k + 510) ≤ 2 ^ (k + 511) := Nat.pow_le_pow_right (by decide) (by omega)
    have m4 : (T * x.den + x.num * B).natAbs < 2 ^ (k + 511) := by
      have e : 2 ^ (k + 511) = 2 ^ (k + 510) + 2 ^ (k + 510) := by rw [show k + 511 = k + 510 + 1 by omega, Nat.pow_succ]; omega
      omega
    obtain ⟨T', B', s', e, b1, b2, b3, b4⟩ := sum_loop r (T * x.den + x.num * B) (B * x.den) (k + 511) (.val (dq x)) (fun y hy => h1 y (List.mem_cons_of_mem _ hy)) m4 (Nat.lt_of_lt_of_le m3 le1) (Int.mul_pos h4 d0) (by omega)
    refine ⟨T', B', s', ?_, b1, b2, b3, ?_⟩
    · rw [← e, List.map_cons]
      refine loop_cons (ρ1 := [a, b, .val (.int T), .val (.int B), .val (dq x)]) rfl ?_
      walk_at "ev"
      rw [oMul_i (okMul_of h2 zx.d (by omega))]
      walk_at "ev"
      rw [oMul_i (okMul_of zx.1 h3 (by omega))]
      walk_at "ev"
      rw [oMul_i (okMul_of h3 zx.d (by omega))]
      walk_at "ev"
    · have nB : (B : Rat) ≠ 0 := fun z => by
        have : B = 0 := by exact_mod_cast z
        omega
      have nd : ((x.den : Int) : Rat) ≠ 0 := fun z => by
        have : (x.den : Int) = 0 := by exact_mod_cast z
        omega
      have ex : (x.num : Rat) = x * ((x.den : Int) : Rat) := by
        have h1 := Rat.num_divInt_den x
        rw [Rat.divInt_eq_div] at h1
        rw [← Rat.div_mul_cancel (a := (x.num : Rat)) nd, h1]
      rw [b4, List.sum_cons, Rat.intCast_add, Rat.intCast_mul, Rat.intCast_mul, Rat.intCast_mul, ex]
      have : ((T : Rat) * ((x.den : Int) : Rat) + x * ((x.den : Int) : Rat) * (B : Rat)) / ((B : Rat) * ((x.den : Int) : Rat)) = (T : Rat) / (B : Rat) + x := by grind
      rw [this]
      grind
theorem f_law_sum_is {l : List Rat} {q : Rat} (hl : ∀ x ∈ l, Sz 510 x) (hn : l.length ≤ 12) (hq : Sz 140 q) (hs : l.sum = q) : m_law_sum_is [.lst (l.map dq), dq q] = .ok (.v (.bl true)) := by
  obtain ⟨T', B', s', e, b1, b2, b3, b4⟩ := sum_loop (a := .val (.lst (l.map dq))) (b := .val (dq q)) l 0 1 1 .un hl (by decide) (by decide) (by decide) (by omega)
  unfold m_law_sum_is
  walk_at "ev"
  rw [e]
  walk_at "ev"
  rw [oMul_i (okMul_of (m := 10000) (n := 140) b2 hq.d (by decide))]
  walk_at "ev"
  rw [oMul_i (okMul_of (m := 140) (n := 10000) hq.1 b3 (by decide))]
  walk_at "ev"
  have d0 := den_pos q
  have nd : ((q.den : Int) : Rat) ≠ 0 := fun z => by
    have : (q.den : Int) = 0 := by exact_mod_cast z
    omega
  have ex : (q.num : Rat) = q * ((q.den : Int) : Rat) := by
    have h1 := Rat.num_divInt_den q
    rw [Rat.divInt_eq_div] at h1
    rw [← Rat.div_mul_cancel (a := (q.num : Rat)) nd, h1]
  have fin' : T' * q.den = q.num * B' := by
    have : ((T' * q.den : Int) : Rat) = ((q.num * B' : Int) : Rat) := by
      rw [Rat.intCast_mul, Rat.intCast_mul, b4, ex, hs, show ((0 : Int) : Rat) = 0 from rfl]
      grind
    exact Rat.intCast_inj.mp this
  rw [decide_eq_true fin']
theorem int_lt {q : Rat} {k : Int} : (k : Rat) < q ↔ k * q.den < q.num := by
  rw [Rat.lt_iff]
  show k * (q.den : Int) < q.num * ((1 : Nat) : Int) ↔ _
  omega
theorem pairD_map {α β : Type} {u : α → D} {v : β → D} : ∀ (l : List α) (m : List β), pairD (l.map u) (m.map v) = (l.zip m).map fun p => .tup [u p.1, v p.2]
  | [], _ => by simp [pairD]
  | _ :: _, [] => by simp [pairD]
  | a :: l, b :: m => by rw [List.map_cons, List.map_cons, List.zip_cons_cons, List.map_cons, ← pairD_map l m]; rfl
theorem f_law_dealing {l : List Rat} {cs : List Int} {q : Rat} (hc : Cl cs) (hlen : l.length = cs.length) (hl : ∀ x ∈ l, Sz 510 x) (hz : ∀ p ∈ l.zip cs, 0 ≤ p.1 ∧ p.1 ≤ (p.2 : Rat)) (hq : Sz 140 q) (hs : l.sum = q) : m_law_dealing [.lst (l.map dq), .lst (cs.map D.int), dq q] = .ok (.v (.bl true)) := by
  have hi := hc.hi
  unfold m_law_dealing
  walk_at "ev"
  rw [hlen, decide_eq_true rfl]
  walk_at "ev"
  rw [zipF_of rfl rfl]
  walk_at "ev"
  refine loop_go (Q := fun r => r.bind fin = .ok (.v (.bl true))) (k := seqF b_law_dealing_6) (fun ρ => ∃ x y, ρ = [.val (.lst (l.map dq)), .val (.lst (cs.map D.int)), .val (dq q), x, y]) ⟨_, _, rfl⟩ ?_ ?_
  · rintro d ρ hd ⟨x, y, rfl⟩
    rw [pairD_map] at hd
    obtain ⟨p, hp, rfl⟩ := List.mem_map.mp hd
    obtain ⟨p1, p2⟩ := List.of_mem_zip hp
    obtain ⟨z1, z2⟩ := hz p hp
    have zx := hl _ p1
    have c1 := hc.nn _ p2
    have c2 := hc.up _ p2
    have n0 : 0 ≤ p.1.num := Rat.num_nonneg.mpr z1
    have n1 : ¬ p.2 * p.1.den < p.1.num := fun z => Rat.not_lt.mpr z2 (int_lt.mpr z)
    refine ⟨_, ?_, .val (dq p.1), .val (.int p.2), rfl⟩
    walk_at "ev"
    rw [f_law_is_fraction zx (by decide)]
    walk_at "ev"
    rw [decide_eq_false (by omega)]
    walk_at "ev"
    rw [oMul_i (okMul_of (m := 100) (n := 510) (by omega) zx.d (by decide))]
    walk_at "ev"
    rw [decide_eq_false (by omega)]
    walk_at "ev"
  · rintro ρ ⟨x, y, rfl⟩
    walk_at "ev"
    rw [f_law_sum_is hl (by omega) hq hs]
    walk_at "ev"

theorem sum_fn (f g : Nat → Rat) : ∀ n : Nat, ((List.range n).map fun i => f i - g i).sum = ((List.range n).map f).sum - ((List.range n).map g).sum
  | 0 => by simp only [List.range_zero, List.map_nil, List.sum_nil]; grind
  | n + 1 => by
    rw [List.range_succ, List.map_append, List.map_append, List.map_append, List.sum_append, List.sum_append, List.sum_append, sum_fn f g n]
    simp only [List.map_cons, List.map_nil, List.sum_cons, List.sum_nil]
    grind
theorem cs_sum (cs : List Int) : ((List.range cs.length).map (cR cs)).sum = (cs.sum : Rat) := by
  have e := wS_muls cs (List.range cs.length)
  rw [wS_range cs _ (Nat.le_refl _), List.take_length] at e
  exact e
theorem gets_bd {ws cs : List Int} {t : Rat} (hW : Wt ws cs) (hc : Cl cs) (h0 : 0 ≤ t) {i : Nat} (hi : i < cs.length) : 0 ≤ gets (cR cs) (cR ws) t i ∧ gets (cR cs) (cR ws) t i ≤ cR cs i := by
  have w := (hW.at hi).1
  have c := hc.nn _ (List.mem_of_getElem? (at_getD hi))
  have w' : (0 : Rat) ≤ cR ws i := by unfold cR; exact_mod_cast (show 0 ≤ ws.getD i 0 by omega)
  have c' : (0 : Rat) ≤ cR cs i := by unfold cR; exact_mod_cast c
  have := Rat.mul_nonneg w' h0
  unfold gets mn
  grind
theorem mem_zip_fn {f : Nat → Rat} {cs : List Int} {p : Rat × Int} (h : p ∈ ((List.range cs.length).map f).zip cs) : ∃ i, i < cs.length ∧ p = (f i, cs.getD i 0) := by
  obtain ⟨i, hi, e⟩ := List.mem_iff_getElem.mp h
  rw [List.length_zip, List.length_map, List.length_range, Nat.min_self] at hi
  refine ⟨i, hi, ?_⟩
  rw [← e, List.getElem_zip, List.getElem_map, List.getElem_range, List.getD_eq_getElem?_getD, List.getElem?_eq_getElem hi]
  rfl
theorem dep_intl (l : List Int) : dep (.lst (l.map D.int)) ≤ 2 := by
  have : depS (l.map D.int) ≤ 1 := by
    induction l with
    | nil => exact Nat.zero_le _
    | cons a l ih => rw [List.map_cons]; show max 0 (depS (l.map D.int)) ≤ 1; omega
  show depS (l.map D.int) + 1 ≤ 2
  omega
theorem f_law_dealing' {f : Nat → Rat} {cs : List Int} {q : Rat} (hc : Cl cs) (h : ∀ i, i < cs.length → 0 ≤ f i ∧ f i ≤ cR cs i ∧ Sz 510 (f i)) (hq : Sz 140 q) (hs : ((List.range cs.length).map f).sum = q) : m_law_dealing [.lst (((List.range cs.length).map f).map dq), .lst (cs.map D.int), dq q] = .ok (.v (.bl true)) := by
  refine f_law_dealing hc (by rw [List.length_map, List.length_range]) (fun x hx => ?_) (fun p hp => ?_) hq hs
  · obtain ⟨i, hi, rfl⟩ := List.mem_map.mp hx
    exact (h i (List.mem_range.mp hi)).2.2
  · obtain ⟨i, hi, rfl⟩ := mem_zip_fn hp
    exact ⟨(h i hi).1, (h i hi).2.1⟩
theorem num_is (x : Rat) : (x.num : Rat) = x * ((x.den : Int) : Rat) := by
  have d0 := den_pos x
  have nd : ((x.den : Int) : Rat) ≠ 0 := fun z => by
    have : (x.den : Int) = 0 := by exact_mod_cast z
    omega
  have h1 := Rat.num_divInt_den x
  rw [Rat.divInt_eq_div] at h1
  rw [← Rat.div_mul_cancel (a := (x.num : Rat)) nd, h1]

theorem list_fn {l : List Rat} {n : Nat} (h : l.length = n) : l = (List.range n).map fun i => l.getD i 0 := by
  refine List.ext_getElem? fun i => ?_
  rw [List.getElem?_map]
  by_cases hi : i < n
  · rw [List.getElem?_range hi, List.getElem?_eq_getElem (by omega)]
    show _ = some (l.getD i 0)
    rw [List.getD_eq_getElem?_getD, List.getElem?_eq_getElem (by omega)]; rfl
  · rw [List.getElem?_eq_none (by omega), List.getElem?_eq_none (by rw [List.length_range]; omega)]; rfl
/-! by row -/
noncomputable def rowF (cs : List Int) (q : Rat) (i : Nat) : Rat := (fillR cs 0 q).getD i 0
theorem fill_bd : ∀ (cs : List Int) (a : Int) (q : Rat) (i : Nat), (∀ c ∈ cs, 0 ≤ c) → i < cs.length → 0 ≤ (fillR cs a q).getD i 0 ∧ (fillR cs a q).getD i 0 ≤ cR cs i
  | c :: r, a, q, 0, h, _ => by
    have c0 : (0 : Rat) ≤ (c : Rat) := by exact_mod_cast h c List.mem_cons_self
    show 0 ≤ mn (ps0 (q - (a : Rat))) (c : Rat) ∧ mn (ps0 (q - (a : Rat))) (c : Rat) ≤ (c : Rat)
    unfold mn ps0
    grind
  | c :: r, a, q, i + 1, h, hi => fill_bd r (a + c) q i (fun x hx => h x (List.mem_cons_of_mem _ hx)) (by rw [List.length_cons] at hi; omega)
theorem fill_mono : ∀ (cs : List Int) (a : Int) {q q' : Rat} (i : Nat), q ≤ q' → (fillR cs a q).getD i 0 ≤ (fillR cs a q').getD i 0
  | [], _, _, _, _, _ => Rat.le_refl
  | c :: r, a, q, q', 0, h => by
    show mn (ps0 (q - (a : Rat))) (c : Rat) ≤ mn (ps0 (q' - (a : Rat))) (c : Rat)
    unfold mn ps0
    grind
  | c :: r, a, q, q', i + 1, h => fill_mono r (a + c) i h
theorem fill_sum : ∀ (cs : List Int) (a : Int) (q : Rat), (∀ c ∈ cs, 0 ≤ c) → 0 ≤ cs.sum ∧ (fillR cs a q).sum = mn (ps0 (q - (a : Rat))) (cs.sum : Rat)
  | [], a, q, _ => ⟨Int.le_refl _, by show (0 : Rat) = mn (ps0 _) ((0 : Int) : Rat); rw [show ((0 : Int) : Rat) = 0 from rfl]; unfold mn ps0; grind⟩
  | c :: r, a, q, h => by
    have c0 := h c List.mem_cons_self
    obtain ⟨s0, e⟩ := fill_sum r (a + c) q fun x hx => h x (List.mem_cons_of_mem _ hx)
    have c0' : (0 : Rat) ≤ (c : Rat) := by exact_mod_cast c0
    have s0' : (0 : Rat) ≤ (r.sum : Rat) := by exact_mod_cast s0
    rw [List.sum_cons]
    refine ⟨by omega, ?_⟩
    rw [fillR, List.sum_cons, e, Rat.intCast_add, Rat.intCast_add]
    unfold mn ps0
    grind
theorem fill_sz {q : Rat} {m : Nat} (hq : Sz m q) : ∀ (cs : List Int) (a : Int), (∀ c ∈ cs, 0 ≤ c) → (∀ c ∈ cs, c < 10 ^ 30) → 0 ≤ a → a + cs.length * 10 ^ 30 < 2 ^ 110 → ∀ x ∈ fillR cs a q, Sz (m + 111) x
  | [], _, _, _, _, _, x, hx => by cases hx
  | c :: r, a, h1, h2, h3, h4, x, hx => by
    have c0 := h1 c List.mem_cons_self
    have c1 := h2 c List.mem_cons_self
    rw [List.length_cons] at h4
    have e4 : ((r.length + 1 : Nat) : Int) * 10 ^ 30 = (r.length : Int) * 10 ^ 30 + 10 ^ 30 := by rw [Int.natCast_add, Int.add_mul]; rfl
    have r0 : 0 ≤ (r.length : Int) * 10 ^ 30 := Int.mul_nonneg (by omega) (by decide)
    rw [fillR] at hx
    rcases List.mem_cons.mp hx with rfl | hx
    · exact sz_mn (sz_ps (hq.sub (sz_int (n := 110) (by omega) (by decide))) (by omega)) (Sz.mono (m := 100) (sz_int (by omega) (by decide)) (by omega))
    · exact fill_sz hq r (a + c) (fun x hx => h1 x (List.mem_cons_of_mem _ hx)) (fun x hx => h2 x (List.mem_cons_of_mem _ hx)) (by omega) (by omega) x hx
theorem row_all {cs : List Int} {q : Rat} {m : Nat} (hc : Cl cs) (hq : Sz m q) (h0 : 0 ≤ q) (h1 : q ≤ (cs.sum : Rat)) : (fillR cs 0 q = (List.range cs.length).map (rowF cs q)) ∧ (fillR cs 0 q).sum = q ∧ ∀ x ∈ fillR cs 0 q, Sz (m + 111) x := by
  have hi := hc.hi
  refine ⟨list_fn (fillR_len _ _ _), ?_, fill_sz hq cs 0 hc.nn hc.up (by decide) (by omega)⟩
  rw [(fill_sum cs 0 q hc.nn).2, show ((0 : Int) : Rat) = 0 from rfl]
  unfold mn ps0
  grind
theorem f_back {n : Nat} {e : D} {cs : List Int} {q : Rat} {m : Nat} (hm : m ≤ 2890) (hc : Cl cs) (hq : Haul m q cs.sum) : m_rightly_dealt (n + 2) [.str (Str.ofString "back"), e, .lst (cs.map D.int), dq q] = .ok (.f (((List.range cs.length).map fun i => cR cs i - rowF cs ((cs.sum : Rat) - q) i).map dq)) := by
  have sm := hc.sum
  have hi := hc.hi
  have zW : Sz 105 (cs.sum : Rat) := sz_int (by omega) (by decide)
  have zT : Sz (m + 106) ((cs.sum : Rat) - q) := (zW.sub hq.sz).mono (by omega)
  have u := hq.up
  have u' := hq.nn
  obtain ⟨r1, r2, r3⟩ := row_all hc zT (by grind) (by grind)
  have ee := f_row (n := n) (e := e) (.inl rfl) (m := m + 106) (by omega) hc zT (by grind)
  show g_rightly_dealt (m_rightly_dealt (n + 1)) _ = _
  unfold g_rightly_dealt
  walk_at "ev"
  rw [f_whole]
  walk_at "ev"
  rw [s_br]
  walk_at "ev"
  rw [s_be]
  walk_at "ev"
  rw [s_bp]
  walk_at "ev"
  rw [s_bh]
  walk_at "ev"
  rw [show oTabAt t_CONTRARY (.str (Str.ofString "back")) = .ok (.str (Str.ofString "row")) by show tabO (t_CONTRARY.lookup (Str.ofString "back")) = _; rw [way_back]; rfl]
  walk_at "ev"
  rw [f_minus zW hq.sz (by omega)]
  walk_at "ev"
  rw [ee]
  walk_at "ev"
  rw [zipF_of rfl rfl]
  walk_at "ev"
  rw [comp2F_of (u := D.int) (v := dq) (g := fun c l => dq ((c : Rat) - l)) (by omega) (fun p hp => by
    obtain ⟨p1, p2⟩ := List.of_mem_zip hp
    have c1 := hc.nn _ p1
    have c2 := hc.up _ p1
    walk_at "ev"
    rw [f_whole]
    walk_at "ev"
    rw [f_minus (m := 100) (n := m + 106 + 111) (sz_int (by omega) (by decide)) (r3 _ p2) (by omega)]
    walk_at "ev")]
  walk_at "ev"
  rw [r1, zip_range cs _ 0, List.map_map, List.map_map]
  rfl

/-! by part -/
noncomputable def partF (cs : List Int) (q : Rat) (i : Nat) : Rat := (partR cs q).getD i 0
theorem partF_is {cs : List Int} {q : Rat} {i : Nat} (hi : i < cs.length) : partF cs q i = Rat.divInt (cs.getD i 0 * q.num) (max 1 cs.sum * q.den) := by
  unfold partF partR
  rw [List.getD_eq_getElem?_getD, List.getElem?_map, at_getD hi]
  rfl
theorem part_at {cs : List Int} {q : Rat} (hc : Cl cs) {i : Nat} (hi : i < cs.length) : partF cs q i * (cs.sum : Rat) = q * cR cs i ∧ (cs.sum = 0 → partF cs q i = 0) := by
  have sm := hc.sum
  have e := partF_is (q := q) hi
  by_cases z : cs.sum = 0
  · have c0 := all_zero hc.nn z _ (List.mem_of_getElem? (at_getD hi))
    have p0 : partF cs q i = 0 := by rw [e, c0, Int.zero_mul, Rat.zero_divInt]
    refine ⟨?_, fun _ => p0⟩
    rw [p0]
    unfold cR
    rw [c0, show ((0 : Int) : Rat) = 0 from rfl]
    grind
  · have W0 : 0 < cs.sum := by omega
    have nW : (cs.sum : Rat) ≠ 0 := fun y => by
      have : cs.sum = 0 := by exact_mod_cast y
      omega
    refine ⟨?_, fun y => absurd y z⟩
    rw [e, Int.max_eq_right (by omega), ← part_is W0]
    show q / (cs.sum : Rat) * cR cs i * (cs.sum : Rat) = _
    grind
theorem part_sz {cs : List Int} {q : Rat} {m : Nat} (hc : Cl cs) (hq : Sz m q) {i : Nat} (hi : i < cs.length) : Sz (m + 370) (partF cs q i) := by
  have sm := hc.sum
  have c1 := hc.nn _ (List.mem_of_getElem? (at_getD hi))
  have c2 := hc.up _ (List.mem_of_getElem? (at_getD hi))
  rw [partF_is hi]
  have d0 := den_pos q
  have p := Int.mul_pos (show 0 < max 1 cs.sum by omega) d0
  exact Sz.of (by omega) (Nat.lt_of_lt_of_le (mul_lt (m := 100) (n := m) (by omega) hq.1) (Nat.pow_le_pow_right (by decide) (by omega))) (Nat.lt_of_lt_of_le (mul_lt (m := 110) (n := m) (by omega) hq.d) (Nat.pow_le_pow_right (by decide) (by omega)))
/-! the six ways -/
inductive Wy where
  | row | back | even | lack | part | half
noncomputable def Wy.s : Wy → Str
  | .row => Str.ofString "row"
  | .back => Str.ofString "back"
  | .even => Str.ofString "even"
  | .lack => Str.ofString "lack"
  | .part => Str.ofString "part"
  | .half => Str.ofString "half"
/-- the weights that are due -/
noncomputable def Wy.due (w : Wy) (ws cs : List Int) : Prop := match w with
  | .even => Wt ws cs
  | .lack => Wt ws cs
  | _ => ws = []
noncomputable def Al (M : Nat) (ws cs : List Int) (q : Rat) (f : Nat → Rat) : Wy → Prop
  | .row => ∀ i, i < cs.length → f i = rowF cs q i
  | .back => ∀ i, i < cs.length → f i = cR cs i - rowF cs ((cs.sum : Rat) - q) i
  | .even => ∃ t, Lvl M ws cs q t ∧ ∀ i, i < cs.length → f i = gets (cR cs) (cR ws) t i
  | .lack => ∃ t, Lvl M ws cs ((cs.sum : Rat) - q) t ∧ ∀ i, i < cs.length → f i = cR cs i - gets (cR cs) (cR ws) t i
  | .part => ∀ i, i < cs.length → f i = partF cs q i
  | .half => ∃ t, (q + q ≤ (cs.sum : Rat) ∧ Lvl M (ones cs) cs (q + q) t ∧ ∀ i, i < cs.length → f i = gets (cR cs) (cR (ones cs)) t i * hf) ∨ ((cs.sum : Rat) < q + q ∧ Lvl M (ones cs) cs (((cs.sum : Rat) - q) + ((cs.sum : Rat) - q)) t ∧ ∀ i, i < cs.length → f i = cR cs i - gets (cR cs) (cR (ones cs)) t i * hf)
theorem f_rightly {w : Wy} {ws cs : List Int} {q : Rat} {m : Nat} (hm : m ≤ 2880) (hw : w.due ws cs) (hc : Cl cs) (hq : Haul m q cs.sum) : ∃ f, m_rightly_dealt 2 [.str w.s, .lst (ws.map D.int), .lst (cs.map D.int), dq q] = .ok (.f (((List.range cs.length).map f).map dq)) ∧ Al (m + 263) ws cs q f w := by
  have z := hq.sz
  cases w with
  | row => exact ⟨rowF cs q, by rw [← (row_all hc z hq.nn hq.up).1]; exact f_row (.inl rfl) (by omega) hc z hq.nn, fun i _ => rfl⟩
  | back => exact ⟨_, f_back (by omega) hc hq, fun i _ => rfl⟩
  | even =>
    obtain ⟨t, tl, e⟩ := f_even (n := 1) (by omega) hw hc z hq.nn hq.up
    exact ⟨_, e, t, tl.mono (by omega), fun i _ => rfl⟩
  | lack =>
    obtain ⟨t, tl, e⟩ := f_lack (n := 0) (by omega) hw hc hq
    rw [lks_is] at e
    exact ⟨_, e, t, tl.mono (by omega), fun i _ => rfl⟩
  | part =>
    refine ⟨partF cs q, ?_, fun i _ => rfl⟩
    have e : partR cs q = (List.range cs.length).map (partF cs q) := list_fn (by unfold partR; rw [List.length_map])
    rw [← e]
    exact f_part (.inl rfl) (by omega) hc z
  | half =>
    by_cases h : (cs.sum : Rat) < q + q
    · obtain ⟨t, tl, e⟩ := f_half2 (n := 0) (e := .lst (ws.map D.int)) (by omega) hc hq h
      exact ⟨_, e, t, .inr ⟨h, tl, fun i _ => rfl⟩⟩
    · obtain ⟨t, tl, e⟩ := f_half1 (n := 1) (e := .lst (ws.map D.int)) (by omega) hc z hq.nn (Rat.not_lt.mp h)
      exact ⟨_, e, t, .inl ⟨Rat.not_lt.mp h, tl.mono (by omega), fun i _ => rfl⟩⟩
theorem way_all (w : Wy) : ∃ v, t_CONTRARY.lookup w.s = some v := by
  cases w
  · exact ⟨_, way_row⟩
  · exact ⟨_, way_back⟩
  · exact ⟨_, way_even⟩
  · exact ⟨_, way_lack⟩
  · exact ⟨_, way_part⟩
  · exact ⟨_, way_half⟩
theorem f_looked {w : Wy} {ws cs : List Int} (hw : w.due ws cs) (hc : Cl cs) : m_looked [.str w.s, .lst (ws.map D.int), .lst (cs.map D.int)] = .ok (.v .non) := by
  have rw' : m_refuse_weights [.str w.s, .lst (ws.map D.int), .int cs.length] = .ok (.v .non) := by
    cases w with
    | even => exact f_weights_due hw rfl
    | lack => exact f_weights_due hw rfl
    | row => rw [show ws = [] from hw]; exact f_refuse_weights (.inl rfl) rfl
    | back => rw [show ws = [] from hw]; exact f_refuse_weights (.inl rfl) rfl
    | part => rw [show ws = [] from hw]; exact f_refuse_weights (.inl rfl) rfl
    | half => rw [show ws = [] from hw]; exact f_refuse_weights (.inl rfl) rfl
  obtain ⟨v, hv⟩ := way_all w
  unfold m_looked
  walk_at "ev"
  rw [f_refuse_way hv]
  walk_at "ev"
  rw [f_refuse_claims hc]
  walk_at "ev"
  rw [rw']
  walk_at "ev"
theorem f_dealt {w : Wy} {ws cs : List Int} {q : Rat} {m : Nat} (hm : m ≤ 2880) (hw : w.due ws cs) (hc : Cl cs) (hq : Haul m q cs.sum) : ∃ f, m_dealt [.str w.s, .lst (ws.map D.int), .lst (cs.map D.int), dq q] = .ok (.f (((List.range cs.length).map f).map dq)) ∧ Al (m + 263) ws cs q f w := by
  obtain ⟨f, rd, al⟩ := f_rightly hm hw hc hq
  have sm := hc.sum
  refine ⟨f, ?_, al⟩
  unfold m_dealt
  walk_at "ev"
  rw [f_looked hw hc]
  walk_at "ev"
  rw [f_whole]
  walk_at "ev"
  rw [f_refuse_outside (by omega) hq (by omega)]
  walk_at "ev"
  rw [rd]
  walk_at "ev"

structure Dl (M : Nat) (cs : List Int) (q : Rat) (f : Nat → Rat) : Prop where
  bd : ∀ i, i < cs.length → 0 ≤ f i ∧ f i ≤ cR cs i ∧ Sz M (f i)
  sum : ((List.range cs.length).map f).sum = q
theorem sum_congr {f g : Nat → Rat} {n : Nat} (h : ∀ i, i < n → f i = g i) : ((List.range n).map f).sum = ((List.range n).map g).sum := by rw [List.map_congr_left fun i hi => h i (List.mem_range.mp hi)]
theorem Dl.congr {M : Nat} {cs : List Int} {q : Rat} {f g : Nat → Rat} (d : Dl M cs q g) (h : ∀ i, i < cs.length → f i = g i) : Dl M cs q f := ⟨fun i hi => by rw [h i hi]; exact d.bd i hi, by rw [sum_congr h]; exact d.sum⟩
theorem Dl.mono {M M' : Nat} {cs : List Int} {q : Rat} {f : Nat → Rat} (d : Dl M cs q f) (h : M ≤ M') : Dl M' cs q f := ⟨fun i hi => ⟨(d.bd i hi).1, (d.bd i hi).2.1, (d.bd i hi).2.2.mono h⟩, d.sum⟩
theorem cR_bd {cs : List Int} (hc : Cl cs) {i : Nat} (hi : i < cs.length) : 0 ≤ cR cs i ∧ Sz 100 (cR cs i) := by
  have c1 := hc.nn _ (List.mem_of_getElem? (at_getD hi))
  have c2 := hc.up _ (List.mem_of_getElem? (at_getD hi))
  exact ⟨by unfold cR; exact_mod_cast c1, sz_int (by omega) (by decide)⟩
/-- what lacks -/
theorem Dl.dual {M : Nat} {cs : List Int} {q q' : Rat} {g : Nat → Rat} (hc : Cl cs) (d : Dl M cs q' g) (h : q' = (cs.sum : Rat) - q) : Dl (100 + M + 1) cs q (fun i => cR cs i - g i) := by
  refine ⟨fun i hi => ?_, ?_⟩
  · obtain ⟨b1, b2, b3⟩ := d.bd i hi
    exact ⟨by grind, by grind, (cR_bd hc hi).2.sub b3⟩
  · rw [sum_fn, cs_sum, d.sum]
    grind
theorem row_dl {m : Nat} {cs : List Int} {q : Rat} (hc : Cl cs) (hq : Sz m q) (h0 : 0 ≤ q) (h1 : q ≤ (cs.sum : Rat)) : Dl (m + 111) cs q (rowF cs q) := by
  obtain ⟨e, s, z⟩ := row_all hc hq h0 h1
  refine ⟨fun i hi => ?_, by rw [← e]; exact s⟩
  obtain ⟨b1, b2⟩ := fill_bd cs 0 q i hc.nn hi
  exact ⟨b1, b2, z _ (by rw [e]; exact List.mem_map.mpr ⟨i, List.mem_range.mpr hi, rfl⟩)⟩
theorem lvl_dl {M : Nat} {ws cs : List Int} {q t : Rat} (hW : Wt ws cs) (hc : Cl cs) (tl : Lvl M ws cs q t) : Dl M cs q (gets (cR cs) (cR ws) t) :=
  ⟨fun i hi => ⟨(gets_bd hW hc tl.nn hi).1, (gets_bd hW hc tl.nn hi).2, tl.sz i hi⟩, tl.sum⟩
theorem half_dl {M : Nat} {cs : List Int} {q t : Rat} (hc : Cl cs) (tl : Lvl M (ones cs) cs (q + q) t) : Dl (M + 2) cs q (fun i => gets (cR cs) (cR (ones cs)) t i * hf) := by
  refine ⟨fun i h => ?_, ?_⟩
  · obtain ⟨b1, b2⟩ := gets_bd (ones_wt cs) hc tl.nn h
    exact ⟨by rw [hf_is]; grind, by rw [hf_is]; grind, (tl.sz i h).mul sz_hf⟩
  · have e := tl.sum
    have e2 := muls_scale (w := gets (cR cs) (cR (ones cs)) t) (t := hf) (l := List.range cs.length)
    unfold evs at e
    unfold muls at e2
    rw [e2, e, hf_is]
    grind
theorem div_eq' {a b s : Rat} (hs : s ≠ 0) (h : a * s = b * s) : a = b := by
  have e1 : a * s / s = a := by grind
  have e2 : b * s / s = b := by grind
  rw [← e1, ← e2, h]
theorem div_le {a b s : Rat} (hs : 0 < s) (h : a * s ≤ b * s) : a ≤ b := Rat.le_of_mul_le_mul_right h hs
theorem part_dl {m : Nat} {cs : List Int} {q : Rat} (hc : Cl cs) (hq : Sz m q) (h0 : 0 ≤ q) (h1 : q ≤ (cs.sum : Rat)) : Dl (m + 370) cs q (partF cs q) := by
  have sm := hc.sum
  have cn : ∀ i, i < cs.length → 0 ≤ cR cs i := fun i hi => (cR_bd hc hi).1
  have sc : muls (fun i => partF cs q i * (cs.sum : Rat)) (List.range cs.length) = q * (cs.sum : Rat) := by
    rw [muls_congr (g := fun i => cR cs i * q) fun i hi => by rw [(part_at hc (List.mem_range.mp hi)).1]; grind]
    rw [muls_scale, show muls (cR cs) (List.range cs.length) = (cs.sum : Rat) from cs_sum cs]
  rw [muls_scale] at sc
  by_cases z : cs.sum = 0
  · have p0 : ∀ i, i < cs.length → partF cs q i = cR cs i := fun i hi => by
      have c0 := all_zero hc.nn z _ (List.mem_of_getElem? (at_getD hi))
      rw [(part_at hc hi).2 z]
      unfold cR
      rw [c0]
      rfl
    refine ⟨fun i hi => ⟨by rw [p0 i hi]; exact cn i hi, by rw [p0 i hi]; exact Rat.le_refl, part_sz hc hq hi⟩, ?_⟩
    rw [sum_congr p0, cs_sum]
    have : (cs.sum : Rat) = 0 := by rw [z]; rfl
    grind
  · have W : (0 : Rat) < (cs.sum : Rat) := by exact_mod_cast (show 0 < cs.sum by omega)
    refine ⟨fun i hi => ?_, ?_⟩
    · have e := (part_at (q := q) hc hi).1
      have c0 := cn i hi
      refine ⟨div_le W (by rw [e]; have := Rat.mul_nonneg h0 c0; grind), div_le W ?_, part_sz hc hq hi⟩
      rw [e]
      have := Rat.mul_le_mul_of_nonneg_right h1 c0
      grind
    · exact div_eq' (s := (cs.sum : Rat)) (by grind) (by rw [Rat.mul_comm]; exact sc)
theorem al_dl {m : Nat} {w : Wy} {ws cs : List Int} {q : Rat} {f : Nat → Rat} (hw : w.due ws cs) (hc : Cl cs) (hq : Haul m q cs.sum) (al : Al (m + 263) ws cs q f w) : Dl (m + 370) cs q f := by
  have sm := hc.sum
  have zW : Sz 105 (cs.sum : Rat) := sz_int (by omega) (by decide)
  have z := hq.sz
  have z' : Sz (m + 106) ((cs.sum : Rat) - q) := (zW.sub hq.sz).mono (by omega)
  have n := hq.nn
  have u := hq.up
  cases w with
  | row => exact ((row_dl hc z n u).mono (by omega)).congr al
  | back => exact ((Dl.dual hc (row_dl hc z' (by grind) (by grind)) rfl).mono (by omega)).congr al
  | even =>
    obtain ⟨t, tl, e⟩ := al
    exact ((lvl_dl hw hc tl).mono (by omega)).congr e
  | lack =>
    obtain ⟨t, tl, e⟩ := al
    exact ((Dl.dual hc (lvl_dl hw hc tl) rfl).mono (by omega)).congr e
  | part => exact (part_dl hc z n u).congr al
  | half =>
    obtain ⟨t, ⟨c, tl, e⟩ | ⟨c, tl, e⟩⟩ := al
    · exact ((half_dl hc tl).mono (by omega)).congr e
    · exact ((Dl.dual hc (half_dl hc tl) rfl).mono (by omega)).congr e

/-! each two of what is dealt -/
theorem fill_at : ∀ (cs : List Int) (a : Int) (q : Rat) (i : Nat), i < cs.length → (fillR cs a q).getD i 0 = mn (ps0 (q - ((a + (cs.take i).sum : Int) : Rat))) (cR cs i)
  | c :: r, a, q, 0, _ => by simp [fillR, cR]
  | c :: r, a, q, i + 1, h => by
    have ih := fill_at r (a + c) q i (by simpa using h)
    rw [List.take_succ_cons, List.sum_cons, ← Int.add_assoc]
    show (fillR r (a + c) q).getD i 0 = _
    rw [ih]
    rfl
theorem take_up : ∀ {cs : List Int} {i j : Nat}, (∀ c ∈ cs, 0 ≤ c) → i < j → j ≤ cs.length → (cs.take i).sum + cs.getD i 0 ≤ (cs.take j).sum ∧ 0 ≤ (cs.take i).sum
  | [], i, j, _, h, h' => by simp at h'; omega
  | c :: r, i, 0, _, h, _ => by omega
  | c :: r, 0, j + 1, hn, _, _ => by
    have hr : ∀ l : List Int, (∀ c ∈ l, 0 ≤ c) → 0 ≤ l.sum := by
      intro l
      induction l with
      | nil => intro _; decide
      | cons a l ih => intro hl; rw [List.sum_cons]; have := hl a List.mem_cons_self; have := ih fun x hx => hl x (List.mem_cons_of_mem _ hx); omega
    have := hr (r.take j) fun x hx => hn x (List.mem_cons_of_mem _ (List.mem_of_mem_take hx))
    rw [List.take_succ_cons, List.sum_cons]
    simp
    omega
  | c :: r, i + 1, j + 1, hn, h, h' => by
    have ih := take_up (cs := r) (i := i) (j := j) (fun x hx => hn x (List.mem_cons_of_mem _ hx)) (by omega) (by simpa using h')
    have := hn c List.mem_cons_self
    rw [List.take_succ_cons, List.sum_cons, List.take_succ_cons, List.sum_cons]
    show c + _ + r.getD i 0 ≤ _ ∧ _
    omega
theorem row_pair {cs : List Int} {q : Rat} (hn : ∀ c ∈ cs, 0 ≤ c) {i j : Nat} (h : i < j) (hj : j < cs.length) : rowF cs q j = 0 ∨ rowF cs q i = cR cs i := by
  unfold rowF
  rw [fill_at cs 0 q j hj, fill_at cs 0 q i (by omega)]
  have tu := (take_up hn h (Nat.le_of_lt hj)).1
  have c0 : (0 : Rat) ≤ cR cs j := by
    unfold cR
    exact_mod_cast hn _ (List.mem_of_getElem? (at_getD hj))
  have tu' : ((0 + (cs.take i).sum : Int) : Rat) + cR cs i ≤ ((0 + (cs.take j).sum : Int) : Rat) := by
    unfold cR
    rw [← Rat.intCast_add]
    exact_mod_cast (show 0 + (cs.take i).sum + cs.getD i 0 ≤ 0 + (cs.take j).sum by omega)
  generalize ((0 + (cs.take i).sum : Int) : Rat) = A at *
  generalize ((0 + (cs.take j).sum : Int) : Rat) = B at *
  generalize cR cs i = x at *
  generalize cR cs j = y at *
  unfold mn ps0
  by_cases z : q ≤ B
  · left; grind
  · right; grind
theorem row_two {a b : Int} {x y : Rat} (h0 : 0 ≤ x) (h1 : x ≤ (a : Rat)) (h2 : 0 ≤ y) (h3 : y ≤ (b : Rat)) (h : y = 0 ∨ x = (a : Rat)) : rowF [a, b] (x + y) 0 = x ∧ rowF [a, b] (x + y) 1 = y := by
  have e0 : rowF [a, b] (x + y) 0 = mn (ps0 (x + y - ((0 : Int) : Rat))) (a : Rat) := rfl
  have e1 : rowF [a, b] (x + y) 1 = mn (ps0 (x + y - ((0 + a : Int) : Rat))) (b : Rat) := rfl
  rw [e0, e1, Int.zero_add, show ((0 : Int) : Rat) = 0 from rfl]
  unfold mn ps0
  generalize (a : Rat) = A at *
  generalize (b : Rat) = B at *
  rcases h with h | h <;> subst h <;> grind
theorem lvl_two {M : Nat} {ws cs : List Int} {i j : Nat} {t t' : Rat} (hi : 0 < cR ws i) (hj : 0 < cR ws j) (h : Lvl M [ws.getD i 0, ws.getD j 0] [cs.getD i 0, cs.getD j 0] (gets (cR cs) (cR ws) t i + gets (cR cs) (cR ws) t j) t') :
    gets (cR [cs.getD i 0, cs.getD j 0]) (cR [ws.getD i 0, ws.getD j 0]) t' 0 = gets (cR cs) (cR ws) t i ∧ gets (cR [cs.getD i 0, cs.getD j 0]) (cR [ws.getD i 0, ws.getD j 0]) t' 1 = gets (cR cs) (cR ws) t j := by
  have s := h.sum
  have k := gets_one (c := cR [cs.getD i 0, cs.getD j 0]) (w := cR [ws.getD i 0, ws.getD j 0]) (t := t') (u := t) (l := [0, 1]) (by
    intro k hk
    rcases List.mem_cons.mp hk with rfl | hk
    · exact hi
    · rw [List.mem_singleton.mp hk]; exact hj) (by
    have e1 : muls (gets (cR [cs.getD i 0, cs.getD j 0]) (cR [ws.getD i 0, ws.getD j 0]) t') [0, 1] = (evs [ws.getD i 0, ws.getD j 0] [cs.getD i 0, cs.getD j 0] t').sum := rfl
    rw [e1, s, muls_cons, muls_cons, muls_nil, Rat.add_zero]
    rfl)
  exact ⟨k 0 List.mem_cons_self, k 1 (List.mem_cons_of_mem _ List.mem_cons_self)⟩
theorem two_sum (a b : Int) : (([a, b] : List Int).sum : Rat) = (a : Rat) + (b : Rat) := by
  rw [List.sum_cons, List.sum_cons, List.sum_nil, Int.add_zero, Rat.intCast_add]
/-- the weights of two -/
noncomputable def w2 (ws : List Int) (i j : Nat) : List Int := if ws = [] then [] else [ws.getD i 0, ws.getD j 0]
theorem hf_two (x : Rat) : x * hf + x * hf = x := by rw [hf_is]; grind
theorem al_two {M M' N : Nat} {w : Wy} {ws cs : List Int} {q : Rat} {f g : Nat → Rat} (hw : w.due ws cs) (hc : Cl cs) (a : Al M ws cs q f w) (d : Dl N cs q f) {i j : Nat} (hij : i < j) (hj : j < cs.length)
    (b : Al M' (w2 ws i j) [cs.getD i 0, cs.getD j 0] (f i + f j) g w) : g 0 = f i ∧ g 1 = f j := by
  have hi : i < cs.length := by omega
  have bi := d.bd i hi
  have bj := d.bd j hj
  have ci : cR cs i = ((cs.getD i 0 : Int) : Rat) := rfl
  have cj : cR cs j = ((cs.getD j 0 : Int) : Rat) := rfl
  have z0 : (0 : Nat) < [cs.getD i 0, cs.getD j 0].length := Nat.zero_lt_succ _
  have z1 : (1 : Nat) < [cs.getD i 0, cs.getD j 0].length := Nat.lt_succ_self _
  have k0 : cR [cs.getD i 0, cs.getD j 0] 0 = cR cs i := rfl
  have k1 : cR [cs.getD i 0, cs.getD j 0] 1 = cR cs j := rfl
  have sm := two_sum (cs.getD i 0) (cs.getD j 0)
  rw [← ci, ← cj] at sm
  have wpos : Wt ws cs → 0 < cR ws i ∧ 0 < cR ws j ∧ w2 ws i j = [ws.getD i 0, ws.getD j 0] := fun hW => by
    have a1 := (hW.at hi).1
    have a2 := (hW.at hj).1
    refine ⟨by unfold cR; exact_mod_cast (show 0 < ws.getD i 0 by omega), by unfold cR; exact_mod_cast (show 0 < ws.getD j 0 by omega), ?_⟩
    unfold w2
    rw [if_neg]
    intro e
    have := hW.len
    rw [e] at this
    simp at this
    omega
  cases w with
  | row =>
    rw [b 0 z0, b 1 z1]
    exact row_two bi.1 bi.2.1 bj.1 bj.2.1 (by rw [a j hj, a i hi]; exact row_pair hc.nn hij hj)
  | back =>
    have ai := a i hi
    have aj := a j hj
    have b0 := b 0 z0
    have b1 := b 1 z1
    rw [sm, k0] at b0
    rw [sm, k1] at b1
    have key := row_two (a := cs.getD i 0) (b := cs.getD j 0) (x := rowF cs ((cs.sum : Rat) - q) i) (y := rowF cs ((cs.sum : Rat) - q) j) (by grind) (by rw [← ci]; grind) (by grind) (by rw [← cj]; grind) (row_pair hc.nn hij hj)
    rw [show cR cs i + cR cs j - (f i + f j) = rowF cs ((cs.sum : Rat) - q) i + rowF cs ((cs.sum : Rat) - q) j by rw [ai, aj]; grind] at b0 b1
    rw [key.1] at b0
    rw [key.2] at b1
    exact ⟨by rw [b0, ai], by rw [b1, aj]⟩
  | even =>
    obtain ⟨p1, p2, p3⟩ := wpos hw
    obtain ⟨t, tl, e⟩ := a
    obtain ⟨t', tl', e'⟩ := b
    rw [p3] at tl' e'
    rw [e i hi, e j hj] at tl' ⊢
    obtain ⟨r0, r1⟩ := lvl_two p1 p2 tl'
    exact ⟨by rw [e' 0 z0, r0], by rw [e' 1 z1, r1]⟩
  | lack =>
    obtain ⟨p1, p2, p3⟩ := wpos hw
    obtain ⟨t, tl, e⟩ := a
    obtain ⟨t', tl', e'⟩ := b
    rw [p3] at tl' e'
    rw [sm, e i hi, e j hj, show cR cs i + cR cs j - (cR cs i - gets (cR cs) (cR ws) t i + (cR cs j - gets (cR cs) (cR ws) t j)) = gets (cR cs) (cR ws) t i + gets (cR cs) (cR ws) t j by grind] at tl'
    obtain ⟨r0, r1⟩ := lvl_two p1 p2 tl'
    exact ⟨by rw [e' 0 z0, r0, e i hi]; rfl, by rw [e' 1 z1, r1, e j hj]; rfl⟩
  | part =>
    have ai := a i hi
    have aj := a j hj
    have b0 := b 0 z0
    have b1 := b 1 z1
    have c2 : Cl [cs.getD i 0, cs.getD j 0] := ⟨fun c h => by
      rcases List.mem_cons.mp h with rfl | h
      · exact hc.nn _ (List.mem_of_getElem? (at_getD hi))
      · rw [List.mem_singleton.mp h]; exact hc.nn _ (List.mem_of_getElem? (at_getD hj)), fun c h => by
      rcases List.mem_cons.mp h with rfl | h
      · exact hc.up _ (List.mem_of_getElem? (at_getD hi))
      · rw [List.mem_singleton.mp h]; exact hc.up _ (List.mem_of_getElem? (at_getD hj)), Nat.succ_le_succ (Nat.zero_le _), by show 2 ≤ 12; decide⟩
    have P0 := part_at (q := f i + f j) c2 z0
    have P1 := part_at (q := f i + f j) c2 z1
    have Pi := part_at (q := q) hc hi
    have Pj := part_at (q := q) hc hj
    rw [← b0, sm, k0] at P0
    rw [← b1, sm, k1] at P1
    rw [← ai] at Pi
    rw [← aj] at Pj
    have ni : (0 : Rat) ≤ cR cs i := by have := bi.1; have := bi.2.1; grind
    have nj : (0 : Rat) ≤ cR cs j := by have := bj.1; have := bj.2.1; grind
    by_cases z : cR cs i + cR cs j = 0
    · have y0 : cR cs i = 0 := by grind
      have y1 : cR cs j = 0 := by grind
      have zi : [cs.getD i 0, cs.getD j 0].sum = 0 := by
        have : (([cs.getD i 0, cs.getD j 0].sum : Int) : Rat) = ((0 : Int) : Rat) := by rw [sm, z]; rfl
        exact_mod_cast this
      have q0 := P0.2 zi
      have q1 := P1.2 zi
      have := bi.1; have := bi.2.1; have := bj.1; have := bj.2.1
      exact ⟨by grind, by grind⟩
    · by_cases zs : cs.sum = 0
      · have e1 := all_zero hc.nn zs _ (List.mem_of_getElem? (at_getD hi))
        have e2 := all_zero hc.nn zs _ (List.mem_of_getElem? (at_getD hj))
        refine absurd ?_ z
        rw [ci, cj, e1, e2, show ((0 : Int) : Rat) = 0 from rfl, Rat.add_zero]
      · have S0 : (cs.sum : Rat) ≠ 0 := by
          intro e
          have e' : (cs.sum : Rat) = ((0 : Int) : Rat) := e
          exact zs (by exact_mod_cast e')
        have p0 := P0.1
        have p1 := P1.1
        have pi := Pi.1
        have pj := Pj.1
        generalize (cs.sum : Rat) = S at *
        refine ⟨div_eq' (s := cR cs i + cR cs j) z (div_eq' (s := S) S0 ?_), div_eq' (s := cR cs i + cR cs j) z (div_eq' (s := S) S0 ?_)⟩
        · rw [p0]; grind
        · rw [p1]; grind
  | half =>
    have W := ones_wt cs
    have u1 : (0 : Rat) < cR (ones cs) i := by
      have := (W.at hi).1
      unfold cR; exact_mod_cast (show 0 < (ones cs).getD i 0 by omega)
    have u2 : (0 : Rat) < cR (ones cs) j := by
      have := (W.at hj).1
      unfold cR; exact_mod_cast (show 0 < (ones cs).getD j 0 by omega)
    have o2 : ones [cs.getD i 0, cs.getD j 0] = [(ones cs).getD i 0, (ones cs).getD j 0] := by
      unfold ones
      simp [List.getD, hi, hj]
    have G : ∀ {t : Rat} {k : Nat}, 0 ≤ t → k < cs.length → 0 ≤ gets (cR cs) (cR (ones cs)) t k ∧ gets (cR cs) (cR (ones cs)) t k ≤ cR cs k := fun h0 hk => gets_bd W hc h0 hk
    obtain ⟨t, ha⟩ := a
    obtain ⟨t', hb⟩ := b
    rw [sm, o2] at hb
    have h2 := hf_two
    rcases ha with ⟨h1, tl, e⟩ | ⟨h1, tl, e⟩
    · have gi := G tl.nn hi
      have gj := G tl.nn hj
      have xi := h2 (gets (cR cs) (cR (ones cs)) t i)
      have xj := h2 (gets (cR cs) (cR (ones cs)) t j)
      rcases hb with ⟨h3, tl', e'⟩ | ⟨h3, tl', e'⟩
      · have s2 : f i + f j + (f i + f j) = gets (cR cs) (cR (ones cs)) t i + gets (cR cs) (cR (ones cs)) t j := by rw [e i hi, e j hj]; grind
        rw [s2] at tl'
        obtain ⟨r0, r1⟩ := lvl_two u1 u2 tl'
        exact ⟨by rw [e' 0 z0, r0, e i hi], by rw [e' 1 z1, r1, e j hj]⟩
      · exfalso
        rw [e i hi, e j hj] at h3
        grind
    · have gi := G tl.nn hi
      have gj := G tl.nn hj
      have xi := h2 (gets (cR cs) (cR (ones cs)) t i)
      have xj := h2 (gets (cR cs) (cR (ones cs)) t j)
      rcases hb with ⟨h3, tl', e'⟩ | ⟨h3, tl', e'⟩
      · have fi := e i hi
        have fj := e j hj
        have full : gets (cR cs) (cR (ones cs)) t i = cR cs i ∧ gets (cR cs) (cR (ones cs)) t j = cR cs j := by
          rw [fi, fj] at h3
          exact ⟨by grind, by grind⟩
        have s2 : f i + f j + (f i + f j) = gets (cR cs) (cR (ones cs)) t i + gets (cR cs) (cR (ones cs)) t j := by rw [fi, fj]; grind
        rw [s2] at tl'
        obtain ⟨r0, r1⟩ := lvl_two u1 u2 tl'
        exact ⟨by rw [e' 0 z0, r0, fi]; grind, by rw [e' 1 z1, r1, fj]; grind⟩
      · have s2 : cR cs i + cR cs j - (f i + f j) + (cR cs i + cR cs j - (f i + f j)) = gets (cR cs) (cR (ones cs)) t i + gets (cR cs) (cR (ones cs)) t j := by rw [e i hi, e j hj]; grind
        rw [s2] at tl'
        obtain ⟨r0, r1⟩ := lvl_two u1 u2 tl'
        exact ⟨by rw [e' 0 z0, r0, e i hi]; rfl, by rw [e' 1 z1, r1, e j hj]; rfl⟩

structure Bd (M : Nat) (cs : List Int) (x : Nat → Rat) : Prop where
  bd : ∀ i, i < cs.length → 0 ≤ x i ∧ x i ≤ cR cs i ∧ Sz M (x i)
theorem f_law_added {p q : Rat} {m n : Nat} (hp : Sz m p) (hq : Sz n q) (h : m + n ≤ 8999) : m_law_added [dq p, dq q] = .ok (.v (dq (p + q))) := by
  unfold m_law_added
  walk_at "ev"
  rw [oMul_i (okMul_of hp.1 hq.d (by omega))]
  walk_at "ev"
  rw [oMul_i (okMul_of hq.1 hp.d (by omega))]
  walk_at "ev"
  rw [oMul_i (okMul_of hp.d hq.d (by omega))]
  walk_at "ev"
  rw [f_law_fr2 (Int.mul_pos (by have := q.den_pos; have := p.den_pos; omega) (by have := q.den_pos; omega)) (mul_lt hp.d hq.d) h, add_eq]
  walk_at "ev"
theorem ix_fn {f : Nat → D} {n i : Nat} (h : i < n) : oIx (.lst ((List.range n).map f)) (.int (i : Int)) = .ok (f i) := ix_map (Int.natCast_nonneg i) (show (List.range n)[i]? = some i from List.getElem?_range h)
theorem due_two {w : Wy} {ws cs : List Int} (hw : w.due ws cs) {i j : Nat} (hi : i < cs.length) (hj : j < cs.length) : w.due (w2 ws i j) [cs.getD i 0, cs.getD j 0] := by
  have k : Wt ws cs → Wt (w2 ws i j) [cs.getD i 0, cs.getD j 0] := fun hW => by
    have a1 := hW.at hi
    have a2 := hW.at hj
    have e : w2 ws i j = [ws.getD i 0, ws.getD j 0] := by
      unfold w2
      rw [if_neg]
      intro e
      have := hW.len
      rw [e] at this
      simp at this
      omega
    rw [e]
    refine ⟨rfl, fun c h => ?_, fun c h => ?_⟩
    · rcases List.mem_cons.mp h with rfl | h
      · exact a1.1
      · rw [List.mem_singleton.mp h]; exact a2.1
    · rcases List.mem_cons.mp h with rfl | h
      · exact a1.2
      · rw [List.mem_singleton.mp h]; exact a2.2
  cases w with
  | even => exact k hw
  | lack => exact k hw
  | row => rw [show ws = [] from hw]; exact if_pos rfl
  | back => rw [show ws = [] from hw]; exact if_pos rfl
  | part => rw [show ws = [] from hw]; exact if_pos rfl
  | half => rw [show ws = [] from hw]; exact if_pos rfl
theorem cl_two {cs : List Int} (hc : Cl cs) {i j : Nat} (hi : i < cs.length) (hj : j < cs.length) : Cl [cs.getD i 0, cs.getD j 0] := ⟨fun c h => by
      rcases List.mem_cons.mp h with rfl | h
      · exact hc.nn _ (List.mem_of_getElem? (at_getD hi))
      · rw [List.mem_singleton.mp h]; exact hc.nn _ (List.mem_of_getElem? (at_getD hj)), fun c h => by
      rcases List.mem_cons.mp h with rfl | h
      · exact hc.up _ (List.mem_of_getElem? (at_getD hi))
      · rw [List.mem_singleton.mp h]; exact hc.up _ (List.mem_of_getElem? (at_getD hj)), Nat.succ_le_succ (Nat.zero_le _), by show 2 ≤ 12; decide⟩
theorem due_len {w : Wy} {ws cs : List Int} (hw : w.due ws cs) : ws = [] ∨ ws.length = cs.length := by
  cases w with
  | even => exact .inr hw.len
  | lack => exact .inr hw.len
  | row => exact .inl hw
  | back => exact .inl hw
  | part => exact .inl hw
  | half => exact .inl hw
theorem oEq_dql (l k : List Rat) : oEq (.lst (l.map dq)) (.lst (k.map dq)) = .ok (.bl (decide (l = k))) := by
  unfold oEq
  rw [if_pos (dep_dqs l), eqD, eq_dqs]
theorem oNe_dql (l k : List Rat) : oNe (.lst (l.map dq)) (.lst (k.map dq)) = .ok (.bl (!decide (l = k))) := by
  unfold oNe
  rw [if_pos (dep_dqs l), eqD, eq_dqs]
theorem f_of_two {M : Nat} (hM : M ≤ 1400) {w : Wy} {ws cs : List Int} {x : Nat → Rat} (hw : w.due ws cs) (hc : Cl cs) (hx : Bd M cs x) {i j : Nat} (hi : i < cs.length) (hj : j < cs.length) :
    ∃ g, Al (M + M + 1 + 263) (w2 ws i j) [cs.getD i 0, cs.getD j 0] (x i + x j) g w ∧ m_law_of_two [.str w.s, .lst (ws.map D.int), .lst (cs.map D.int), .lst (((List.range cs.length).map x).map dq), .int (i : Int), .int (j : Int)] = .ok (.v (.bl (decide (g 0 = x i ∧ g 1 = x j)))) := by
  have bi := hx.bd i hi
  have bj := hx.bd j hj
  have c2 := cl_two hc hi hj
  have sm := two_sum (cs.getD i 0) (cs.getD j 0)
  have ha : Haul (M + M + 1) (x i + x j) [cs.getD i 0, cs.getD j 0].sum := ⟨by have := bi.1; have := bj.1; grind, by rw [sm]; have := bi.2.1; have := bj.2.1; unfold cR at *; grind, bi.2.2.add bj.2.2⟩
  obtain ⟨g, eg, ag⟩ := f_dealt (by omega) (due_two hw hi hj) c2 ha
  refine ⟨g, ag, ?_⟩
  have e1 : [cs.getD i 0, cs.getD j 0].map D.int = [.int (cs.getD i 0), .int (cs.getD j 0)] := rfl
  have e2 : ((List.range [cs.getD i 0, cs.getD j 0].length).map g).map dq = [dq (g 0), dq (g 1)] := rfl
  rw [e1, e2] at eg
  have ln : ((List.range cs.length).map x).map dq = (List.range cs.length).map fun k => dq (x k) := by rw [List.map_map]; rfl
  unfold m_law_of_two
  rw [ln]
  rcases due_len hw with rfl | hl
  · have : w2 [] i j = [] := rfl
    rw [this, List.map_nil] at eg
    walk_at "ev"
    rw [show oNe (.lst []) (.lst []) = .ok (.bl false) from rfl]
    walk_at "ev"
    rw [ix_fn hi]
    walk_at "ev"
    rw [ix_fn hj]
    walk_at "ev"
    rw [f_law_added bi.2.2 bj.2.2 (by omega)]
    walk_at "ev"
    rw [ix_nat hi]
    walk_at "ev"
    rw [ix_nat hj]
    walk_at "ev"
    rw [eg]
    walk_at "ev"
    rw [ix_fn hi]
    walk_at "ev"
    rw [ix_fn hj]
    walk_at "ev"
    rw [show [dq (g 0), dq (g 1)] = [g 0, g 1].map dq from rfl, show [dq (x i), dq (x j)] = [x i, x j].map dq from rfl, oEq_dql]
    walk_at "ev"
    simp
  · have hne : ws ≠ [] := by rintro rfl; simp at hl; omega
    have : w2 ws i j = [ws.getD i 0, ws.getD j 0] := if_neg hne
    rw [this, show [ws.getD i 0, ws.getD j 0].map D.int = [.int (ws.getD i 0), .int (ws.getD j 0)] from rfl] at eg
    walk_at "ev"
    rw [show oNe (.lst (ws.map D.int)) (.lst []) = .ok (.bl true) by
      unfold oNe
      rw [if_pos (Nat.le_trans (dep_intl ws) (by decide))]
      obtain ⟨a, r, rfl⟩ := List.exists_cons_of_ne_nil hne
      rfl]
    walk_at "ev"
    rw [ix_nat (by omega : i < ws.length)]
    walk_at "ev"
    rw [ix_nat (by omega : j < ws.length)]
    walk_at "ev"
    rw [ix_fn hi]
    walk_at "ev"
    rw [ix_fn hj]
    walk_at "ev"
    rw [f_law_added bi.2.2 bj.2.2 (by omega)]
    walk_at "ev"
    rw [ix_nat hi]
    walk_at "ev"
    rw [ix_nat hj]
    walk_at "ev"
    rw [eg]
    walk_at "ev"
    rw [ix_fn hi]
    walk_at "ev"
    rw [ix_fn hj]
    walk_at "ev"
    rw [show [dq (g 0), dq (g 1)] = [g 0, g 1].map dq from rfl, show [dq (x i), dq (x j)] = [x i, x j].map dq from rfl, oEq_dql]
    walk_at "ev"
    simp

theorem rbind_ok {α : Type} (x : Res α) : x.bind Res.ok = x := by cases x <;> rfl
theorem f_pairs {n : Nat} (hn : n ≤ 1000) {dw dws dx : D} {cs : List Int} (hc : cs.length = n) {T : Nat → Nat → Bool}
    (h : ∀ i j, i < j → j < n → m_law_of_two [dw, dws, .lst (cs.map D.int), dx, .int (i : Int), .int (j : Int)] = .ok (.v (.bl (T i j)))) :
    ∃ b, m_law_pairs_right [dw, dws, .lst (cs.map D.int), dx] = .ok (.v (.bl b)) ∧ (b = true ↔ ∀ i j, i < j → j < n → T i j = true) := by
  unfold m_law_pairs_right
  walk_at "ev"
  rw [hc, rng1F_i (by omega) (by omega)]
  walk_at "ev"
  refine loop_find (Q := fun r => ∃ b, (r.bind fin) = .ok (.v (.bl b)) ∧ (b = true ↔ ∀ i j, i < j → j < n → T i j = true)) (k := seqF b_law_pairs_right_5) (fun k ρ => ∃ s t, ρ = [.val dw, .val dws, .val (.lst (cs.map D.int)), .val dx, s, t] ∧ ∀ i j, i < j → j < k → T i j = true) ⟨_, _, rfl, fun i j _ h => by omega⟩ ?_ ?_
  · rintro k d ρ hd ⟨s, t, rfl, ht⟩
    obtain ⟨hk, rfl⟩ := rng_ix hd
    have hk' : k < n := by simpa using hk
    rw [show (0 : Int) + (k : Int) * 1 = (k : Int) by omega]
    walk_at "ev"
    rw [rng1F_i (by omega) (by omega)]
    walk_at "ev"
    rw [← rbind_ok (loop _ _ _ _)]
    refine loop_find (Q := fun r => (∃ ρ2, r = .ok (.nx ρ2) ∧ ∃ s t, ρ2 = [.val dw, .val dws, .val (.lst (cs.map D.int)), .val dx, s, t] ∧ ∀ i j, i < j → j < k + 1 → T i j = true) ∨ ∃ r', r = .ok (.ret r') ∧ ∃ b, ((seqF b_law_pairs_right_5 (.ret r')).bind fin) = .ok (.v (.bl b)) ∧ (b = true ↔ ∀ i j, i < j → j < n → T i j = true)) (k := Res.ok) (fun l ρ => ∃ t, ρ = [.val dw, .val dws, .val (.lst (cs.map D.int)), .val dx, .val (.int (k : Int)), t] ∧ ∀ i, i < l → T i k = true) ⟨_, rfl, fun i h => by omega⟩ ?_ ?_
    · rintro l d ρ hd ⟨t, rfl, hl⟩
      obtain ⟨hl1, rfl⟩ := rng_ix hd
      have hl' : l < k := by simpa using hl1
      rw [show (0 : Int) + (l : Int) * 1 = (l : Int) by omega]
      have e := h l k hl' hk'
      cases hT : T l k with
      | true =>
        rw [hT] at e
        refine .inl ⟨_, by walk_at "ev"; rw [e]; walk_at "ev"; rfl, _, rfl, fun i hi => ?_⟩
        by_cases z : i = l
        · rw [z]; exact hT
        · exact hl i (by omega)
      | false =>
        rw [hT] at e
        refine .inr ⟨.v (.bl false), by walk_at "ev"; rw [e]; walk_at "ev", .inr ⟨_, rfl, false, rfl, ?_⟩⟩
        refine ⟨fun z => (by cases z), fun z => ?_⟩
        rw [← hT]
        exact z l k hl' hk'
    · rintro ρ' ⟨t, rfl, hl⟩
      refine .inl ⟨_, rfl, _, _, rfl, fun i j hi hj => ?_⟩
      by_cases z : j = k
      · subst z
        exact hl i (by rw [rng_ln]; omega)
      · exact ht i j hi (by omega)
  · rintro ρ' ⟨s, t, rfl, ht⟩
    refine ⟨true, rfl, fun _ i j hi hj => ht i j hi (by rw [rng_ln]; omega), fun _ => rfl⟩

theorem dq_neg (q : Rat) : D.tup [.int (0 - q.num), .int (q.den : Int)] = dq (-q) := by
  show D.tup [.int (0 - q.num), .int (q.den : Int)] = D.tup [.int (-q).num, .int ((-q).den : Int)]
  rw [Int.zero_sub]
  rfl
theorem sz_neg {n : Nat} {q : Rat} (h : Sz n q) : Sz n (-q) := by
  refine ⟨?_, ?_⟩
  · rw [show (-q).num = -q.num from rfl, Int.natAbs_neg]; exact h.1
  · exact h.2
theorem set_fn {F : Nat → D} {n a : Nat} {d : D} : ((List.range n).map F).set a d = (List.range n).map fun k => if k = a then d else F k := by
  refine List.ext_getElem? fun k => ?_
  rw [List.getElem?_set, List.getElem?_map, List.getElem?_map]
  by_cases hk : k < n
  · rw [List.getElem?_range hk, List.length_map, List.length_range]
    by_cases e : a = k
    · subst e
      simp [hk]
    · rw [if_neg e]
      simp [show ¬ k = a from fun h => e h.symm]
  · rw [List.getElem?_eq_none (by rw [List.length_range]; omega), List.length_map, List.length_range]
    by_cases e : a = k
    · rw [if_pos e, if_neg (by omega)]; rfl
    · rw [if_neg e]; rfl
theorem mul_le_one {m p : Rat} (hm : 0 ≤ m) (h0 : 0 ≤ p) (h1 : p ≤ 1) : 0 ≤ m * p ∧ m * p ≤ m := by
  refine ⟨Rat.mul_nonneg hm h0, ?_⟩
  have := Rat.mul_le_mul_of_nonneg_left h1 hm
  grind
theorem f_moved {N : Nat} {cs : List Int} {f : Nat → Rat} (hN : N ≤ 520) (hc : Cl cs) (h2 : 2 ≤ cs.length) (d : Bd N cs f) (c : Int) :
    ∃ (x : Nat → Rat) (a b : Nat), m_law_moved [.lst (cs.map D.int), .lst (((List.range cs.length).map f).map dq), .int c] = .ok (.f (((List.range cs.length).map x).map dq)) ∧
      a < cs.length ∧ b < cs.length ∧ a ≠ b ∧ x a + x b = f a + f b ∧ (∀ k, k ≠ a → k ≠ b → x k = f k) ∧ Bd 1300 cs x := by
  have hi := hc.hi
  have b0 : 0 ≤ c % 10 ^ 40 := Int.emod_nonneg _ (by decide)
  generalize hk : c % 10 ^ 40 = k at b0
  obtain ⟨n, hn⟩ : ∃ n : Nat, n = cs.length := ⟨_, rfl⟩
  obtain ⟨a, ea⟩ : ∃ a : Nat, k % (cs.length : Int) = (a : Int) := Int.eq_ofNat_of_zero_le (Int.emod_nonneg _ (by omega))
  have ha : a < cs.length := by have := Int.emod_lt_of_pos k (show (0 : Int) < (cs.length : Int) by omega); omega
  have r0 := Int.emod_nonneg (k / 12) (show (cs.length : Int) - 1 ≠ 0 by omega)
  have r1 := Int.emod_lt_of_pos (k / 12) (show (0 : Int) < (cs.length : Int) - 1 by omega)
  obtain ⟨b, eb⟩ : ∃ b : Nat, ((a : Int) + 1 + k / 12 % ((cs.length : Int) - 1)) % (cs.length : Int) = (b : Int) := Int.eq_ofNat_of_zero_le (Int.emod_nonneg _ (by omega))
  have hb : b < cs.length := by have := Int.emod_lt_of_pos ((a : Int) + 1 + k / 12 % ((cs.length : Int) - 1)) (show (0 : Int) < (cs.length : Int) by omega); omega
  have hab : a ≠ b := by
    intro e
    subst e
    generalize k / 12 % ((cs.length : Int) - 1) = r at r0 r1 eb
    by_cases z : (a : Int) + 1 + r < cs.length
    · rw [Int.emod_eq_of_lt (by omega) z] at eb; omega
    · rw [← Int.sub_emod_right, Int.emod_eq_of_lt (by omega) (by omega)] at eb; omega
  obtain ⟨p, p0, p1, zp, ep⟩ : ∃ p : Rat, 0 ≤ p ∧ p ≤ 1 ∧ Sz 5 p ∧ ofO (atD [dq 1, dq (Rat.divInt 1 2), dq (Rat.divInt (1 + k / 400 % 11) 12)] (k / 132 % 3)) = .ok (dq p) := by
    rcases (show k / 132 % 3 = 0 ∨ k / 132 % 3 = 1 ∨ k / 132 % 3 = 2 by omega) with h | h | h <;> rw [h]
    · exact ⟨1, by decide, by decide, ⟨by decide, by decide⟩, rfl⟩
    · exact ⟨_, by decide, by decide, Sz.of (by decide) (by decide) (by decide), rfl⟩
    · refine ⟨_, divInt_nn (by omega) (by decide), ?_, Sz.of (by decide) (by omega) (by decide), rfl⟩
      rw [Rat.divInt_eq_div]
      refine div_le (s := ((12 : Int) : Rat)) (by decide) ?_
      rw [Rat.div_mul_cancel (by decide), Rat.one_mul]
      exact Rat.intCast_le_intCast.mpr (by omega)
  have da := d.bd a ha
  have db := d.bd b hb
  have cb : (cR cs b) = ((cs.getD b 0 : Int) : Rat) := rfl
  have zc : Sz 100 (cR cs b) := by
    have u := hc.up _ (List.mem_of_getElem? (at_getD hb))
    have v := hc.nn _ (List.mem_of_getElem? (at_getD hb))
    rw [cb]
    exact sz_int (by omega) (by decide)
  have zpl : Sz (100 + N + 1) (cR cs b + -f b) := zc.add (sz_neg db.2.2)
  have zmo : Sz (100 + N + 1) (mn (cR cs b + -f b) (f a)) := sz_mn zpl (da.2.2.mono (by omega))
  generalize hmo : mn (cR cs b + -f b) (f a) = mo at zmo
  have m0 : 0 ≤ mo ∧ mo ≤ f a ∧ mo ≤ cR cs b - f b := by
    rw [← hmo]; unfold mn
    have := da.1; have := db.2.1
    grind
  obtain ⟨q0, q1⟩ := mul_le_one m0.1 p0 p1
  have zmp : Sz (100 + N + 1 + 5) (mo * p) := zmo.mul zp
  have ln : ((List.range cs.length).map f).map dq = (List.range cs.length).map fun k => dq (f k) := by rw [List.map_map]; rfl
  refine ⟨fun j => if j = b then f b + mo * p else if j = a then f a + -(mo * p) else f j, a, b, ?_, ha, hb, hab, ?_, ?_, ?_⟩
  · have end' : ∀ pl : D, (b_law_moved_9 [.val (.lst (cs.map D.int)), .val (.lst ((List.range cs.length).map fun k => dq (f k))), .val (.int k), .val (.int (a : Int)), .val (.int (b : Int)), .val (dq p), .val pl, .val (dq mo), .un]).bind fin = .ok (.f (((List.range cs.length).map fun j => if j = b then f b + mo * p else if j = a then f a + -(mo * p) else f j).map dq)) := by
      intro pl
      unfold b_law_moved_9 b_law_moved_10 b_law_moved_11 b_law_moved_12
      walk_at "ev"
      rw [oMul_i (okMul_of zmo.1 zp.1 (by omega))]
      walk_at "ev"
      rw [oMul_i (okMul_of zmo.d zp.d (by omega))]
      walk_at "ev"
      rw [f_law_fr2 (Int.mul_pos (by have := mo.den_pos; omega) (by have := p.den_pos; omega)) (mul_lt zmo.d zp.d) (by omega), mul_eq]
      walk_at "ev"
      rw [put_i (j := a) (d := dq (f a + -(mo * p))) (ds := (List.range cs.length).map fun k => dq (f k)) (by
        walk_at "ev"
        rw [ix_fn ha]
        walk_at "ev"
        rw [dq_neg, f_law_added da.2.2 (sz_neg zmp) (by omega)]
        walk_at "ev") rfl (by walk_at "ev") (by rw [List.length_map, List.length_range]; exact ha)]
      walk_at "ev"
      rw [put_i (j := b) (d := dq (f b + mo * p)) (ds := ((List.range cs.length).map fun k => dq (f k)).set a (dq (f a + -(mo * p)))) (by
        walk_at "ev"
        rw [ix_fn hb]
        walk_at "ev"
        rw [f_law_added db.2.2 zmp (by omega)]
        walk_at "ev") rfl (by walk_at "ev") (by rw [List.length_set, List.length_map, List.length_range]; exact hb)]
      walk_at "ev"
      rw [set_fn, set_fn, List.map_map]
      refine congrArg (fun l => Res.ok (Rt.f l)) (List.map_congr_left fun j _ => ?_)
      show (if j = b then _ else if j = a then _ else _) = dq (if j = b then f b + mo * p else if j = a then f a + -(mo * p) else f j)
      by_cases e1 : j = b
      · rw [if_pos e1, if_pos e1]
      · rw [if_neg e1, if_neg e1]
        by_cases e2 : j = a
        · rw [if_pos e2, if_pos e2]
        · rw [if_neg e2, if_neg e2]
    unfold m_law_moved b_law_moved_2 b_law_moved_3 b_law_moved_4 b_law_moved_5 b_law_moved_6 b_law_moved_7
    generalize hK : (b_law_moved_9 : Sv) = K at end' ⊢
    rw [ln]
    walk_at "ev"
    rw [hk, oMod_i (by omega), fmod_pos _ (by omega), ea]
    walk_at "ev"
    rw [oMod_i (by omega), fmod_pos _ (by omega)]
    walk_at "ev"
    rw [oMod_i (by omega), fmod_pos _ (by omega), eb]
    walk_at "ev"
    rw [f_law_fr2 (n := 5) (by decide) (by decide) (by decide)]
    walk_at "ev"
    rw [oIx_l, show (D.tup [.int 1, .int 1]) = dq 1 from rfl, show (D.tup [.int 1, .int 2]) = dq (Rat.divInt 1 2) from dq_hf, ep]
    walk_at "ev"
    rw [ix_nat hb]
    walk_at "ev"
    rw [ix_fn hb]
    walk_at "ev"
    rw [ix_fn hb]
    walk_at "ev"
    rw [dq_neg, dq_int, ← cb, f_law_added zc (sz_neg db.2.2) (by omega)]
    walk_at "ev"
    rw [ix_fn ha]
    walk_at "ev"
    rw [oMul_i (okMul_of zpl.1 da.2.2.d (by omega))]
    walk_at "ev"
    rw [oMul_i (okMul_of da.2.2.1 zpl.d (by omega))]
    walk_at "ev"
    by_cases z : cR cs b + -f b < f a
    · rw [decide_eq_true (lt_iff.mpr z)]
      walk_at "ev"
      have : cR cs b + -f b = mo := by rw [← hmo]; unfold mn; rw [if_pos z]
      rw [this]
      exact end' _
    · rw [decide_eq_false (fun h => z (lt_iff.mp h))]
      walk_at "ev"
      have : f a = mo := by rw [← hmo]; unfold mn; rw [if_neg z]
      rw [show dq (f a) = dq mo by rw [this]]
      exact end' _
  · show (if a = b then _ else if a = a then _ else _) + (if b = b then _ else _) = _
    rw [if_neg hab, if_pos rfl, if_pos rfl]
    grind
  · intro j h1 h2
    show (if j = b then _ else if j = a then _ else _) = _
    rw [if_neg h2, if_neg h1]
  · refine ⟨fun j hj => ?_⟩
    show 0 ≤ (if j = b then _ else if j = a then _ else _) ∧ (if j = b then _ else if j = a then _ else _) ≤ _ ∧ Sz 1300 (if j = b then _ else if j = a then _ else _)
    by_cases e1 : j = b
    · subst e1
      rw [if_pos rfl]
      refine ⟨by have := db.1; grind, by grind, (db.2.2.add zmp).mono (by omega)⟩
    · rw [if_neg e1]
      by_cases e2 : j = a
      · subst e2
        rw [if_pos rfl]
        refine ⟨by grind, by have := da.2.1; grind, (da.2.2.add (sz_neg zmp)).mono (by omega)⟩
      · rw [if_neg e2]
        have := d.bd j hj
        exact ⟨this.1, this.2.1, this.2.2.mono (by omega)⟩

/-- a catch of at most S, its bottom small -/
noncomputable def Hl (q : Rat) (S : Int) : Prop := 0 ≤ q ∧ q ≤ (S : Rat) ∧ (q.den : Int) ≤ 10 ^ 9
theorem Hl.haul {q : Rat} {S : Int} (h : Hl q S) (h1 : S < 2 ^ 104) : Haul 140 q S := by
  obtain ⟨a, b, c⟩ := h
  refine ⟨a, b, ?_, ?_⟩
  · have n0 : 0 ≤ q.num := Rat.num_nonneg.mpr a
    have pd : (0 : Rat) ≤ ((q.den : Int) : Rat) := by have := den_pos q; exact_mod_cast (show (0 : Int) ≤ q.den by omega)
    have n1 : q.num ≤ S * q.den := by
      have : ((q.num : Int) : Rat) ≤ ((S * q.den : Int) : Rat) := by rw [Rat.intCast_mul, num_is]; exact Rat.mul_le_mul_of_nonneg_right b pd
      exact Rat.intCast_le_intCast.mp this
    have d0 := den_pos q
    have S0 : 0 ≤ S := by
      have : ((0 : Int) : Rat) ≤ (S : Rat) := by rw [show ((0 : Int) : Rat) = 0 from rfl]; exact Rat.le_trans a b
      exact Rat.intCast_le_intCast.mp this
    have m : (S * q.den).natAbs < 2 ^ 134 := mul_lt (m := 104) (n := 30) (by omega) (by omega)
    have e : 2 ^ 134 ≤ 2 ^ 140 := by decide
    omega
  · have e : 10 ^ 9 < 2 ^ 140 := by decide
    have d0 := den_pos q
    omega
theorem sub_fr (q : Rat) (S : Int) : Rat.divInt (S * q.den - q.num) q.den = (S : Rat) - q := by
  have d0 := den_pos q
  have nd : ((q.den : Int) : Rat) ≠ 0 := fun z => by
    have : (q.den : Int) = 0 := by exact_mod_cast z
    omega
  rw [Rat.divInt_eq_div, Rat.intCast_sub, Rat.intCast_mul, num_is]
  grind
theorem f_law_caught {c W : Int} (h0 : 0 ≤ W) (h1 : W < 2 ^ 104) : ∃ q : Rat, m_law_caught [.int c, .int W] = .ok (.v (dq q)) ∧ Hl q W := by
  have b0 : 0 ≤ c % 10 ^ 40 := Int.emod_nonneg _ (by decide)
  have b1 : c % 10 ^ 40 < 10 ^ 40 := Int.emod_lt_of_pos _ (by decide)
  generalize hk : c % 10 ^ 40 = k at b0 b1
  have rest : ∀ b : Int, 0 < b → b ≤ 10 ^ 9 → ∃ q : Rat, (b_law_caught_3 [.val (.int k), .val (.int W), .val (.int b)]).bind fin = .ok (.v (dq q)) ∧ Hl q W := by
    intro b p1 p2
    have wb : 0 ≤ W * b := Int.mul_nonneg h0 (by omega)
    have t0 := Int.emod_nonneg (k / 4) (show W * b + 1 ≠ 0 by omega)
    have t1 := Int.emod_lt_of_pos (k / 4) (show 0 < W * b + 1 by omega)
    walk_at "ev"
    rw [oMul_i (okMul_of (m := 104) (n := 30) (by omega) (by omega) (by decide))]
    walk_at "ev"
    rw [oMod_i (show W * b + 1 ≠ 0 by omega), fmod_pos _ (show 0 < W * b + 1 by omega)]
    walk_at "ev"
    generalize k / 4 % (W * b + 1) = t at t0 t1 ⊢
    rw [f_law_fr2 (n := 30) p1 (by omega) (by decide)]
    walk_at "ev"
    refine ⟨_, rfl, divInt_nn t0 p1, ?_, Int.le_trans (den_le p1) p2⟩
    rw [Rat.divInt_eq_div]
    have p : (0 : Rat) < (b : Rat) := by exact_mod_cast p1
    refine div_le p ?_
    rw [Rat.div_mul_cancel (by grind), ← Rat.intCast_mul]
    exact Rat.intCast_le_intCast.mpr (by omega)
  unfold m_law_caught
  walk_at "ev"
  rw [hk]
  rcases (show k % 4 = 0 ∨ k % 4 = 1 ∨ k % 4 = 2 ∨ k % 4 = 3 by omega) with h | h | h | h <;> (simp only [h, oIx_l]; generalize hK : (b_law_caught_3 : Sv) = K; walk_at "ev"; subst hK)
  · exact rest 1 (by decide) (by decide)
  · exact rest 2 (by decide) (by decide)
  · exact rest (1 + k / 4 % 12) (by omega) (by omega)
  · have a := Int.emod_nonneg (k / 4) (show (10 : Int) ^ 9 ≠ 0 by decide)
    have b := Int.emod_lt_of_pos (k / 4) (show (0 : Int) < 10 ^ 9 by decide)
    exact rest (1 + k / 4 % 10 ^ 9) (by omega) (by omega)
theorem f_drawn (ns : List Int) : ∃ (w : Wy) (cs ws : List Int), k_law_drawn [.lst (ns.map D.int), .int 8] = .ok (.str w.s, ws.map D.int, cs.map D.int) ∧ Cl cs ∧ cs.length ≤ 8 ∧ w.due ws cs := by
  generalize hf : ns.getD 0 0 % 10 ^ 30 = f
  have f0 : 0 ≤ f := by rw [← hf]; exact Int.emod_nonneg _ (by decide)
  have n0 : 0 ≤ f / 6 % 8 := Int.emod_nonneg _ (by decide)
  have n1 : f / 6 % 8 < 8 := Int.emod_lt_of_pos _ (by decide)
  obtain ⟨w, ew⟩ : ∃ w : Wy, ofO (atD [.str (Str.ofString "row"), .str (Str.ofString "back"), .str (Str.ofString "even"), .str (Str.ofString "lack"), .str (Str.ofString "part"), .str (Str.ofString "half")] (f % 6)) = .ok (.str w.s) := by
    rcases (show f % 6 = 0 ∨ f % 6 = 1 ∨ f % 6 = 2 ∨ f % 6 = 3 ∨ f % 6 = 4 ∨ f % 6 = 5 by omega) with h | h | h | h | h | h <;> rw [h]
    · exact ⟨.row, rfl⟩
    · exact ⟨.back, rfl⟩
    · exact ⟨.even, rfl⟩
    · exact ⟨.lack, rfl⟩
    · exact ⟨.part, rfl⟩
    · exact ⟨.half, rfl⟩
  obtain ⟨x, y, hx, hy, hb1, hb2⟩ : ∃ x y : Bool, (w.s == Str.ofString "even") = x ∧ (w.s == Str.ofString "lack") = y ∧ ((x || y) = true → ∀ ws cs, Wt ws cs → w.due ws cs) ∧ ((x || y) = false → ∀ cs, w.due [] cs) := by
    refine ⟨_, _, rfl, rfl, fun h ws cs hW => ?_, fun h cs => ?_⟩
    · cases w with
      | even => exact hW
      | lack => exact hW
      | row => exact absurd h (by decide)
      | back => exact absurd h (by decide)
      | part => exact absurd h (by decide)
      | half => exact absurd h (by decide)
    · cases w with
      | even => exact absurd h (by decide)
      | lack => exact absurd h (by decide)
      | row => rfl
      | back => rfl
      | part => rfl
      | half => rfl
  refine ⟨w, ?_⟩
  generalize w.s = v at ew hx hy ⊢
  unfold k_law_drawn
  rw [show kTri 2 9 3 6 5 b_law_drawn_1 [.lst (ns.map D.int), .int 8] = triAt 3 6 5 (b_law_drawn_1 (L3.start 9 [.lst (ns.map D.int), .int 8])) from rfl]
  walk_at "ev"
  rw [f_law_cell_at ns 0 (by decide)]
  walk_at "ev"
  rw [hf, oIx_l, ew]
  walk_at "ev"
  generalize f / 6 % 8 = n at n0 n1
  rw [rng1F_i (by omega) (by omega)]
  walk_at "ev"
  refine loop_gl (Q := fun r => ∃ cs ws : List Int, triAt 3 6 5 r = .ok (.str v, ws.map D.int, cs.map D.int) ∧ Cl cs ∧ cs.length ≤ 8 ∧ w.due ws cs) (k := seqF sNext)
    (fun i ρ => ∃ (cs ws : List Int) (a b : Sl), ρ = [.val (.lst (ns.map D.int)), .val (.int 8), .val (.int f), .val (.str v), .val (.int (1 + n)), .own (cs.map D.int), .own (ws.map D.int), a, b] ∧ cs.length = i ∧ (∀ c ∈ cs, 0 ≤ c ∧ c < 10 ^ 30) ∧ ((x || y) = true → ws.length = i) ∧ ((x || y) = false → ws = []) ∧ ws.length ≤ i ∧ ∀ w ∈ ws, 1 ≤ w ∧ w ≤ 10 ^ 6)
    ⟨[], [], _, _, rfl, rfl, (fun c h => by cases h), (fun _ => rfl), (fun _ => rfl), Nat.le_refl _, (fun c h => by cases h)⟩ ?_ ?_
  · rintro i d ρ hd ⟨cs, ws, a, b, rfl, hl, hc, hm1, hm2, hm3, hw⟩
    obtain ⟨hi, rfl⟩ := rng_ix hd
    rw [show (0 : Int) + (i : Int) * 1 = (i : Int) by omega]
    generalize hk : ns.getD (3 + (i : Int)).toNat 0 % 10 ^ 40 = k
    generalize hk2 : ns.getD (3 + (1 + n) + (i : Int)).toNat 0 % 10 ^ 30 = k2
    obtain ⟨c, c0, c1, ce⟩ : ∃ (c : Int), 0 ≤ c ∧ c < 10 ^ 30 ∧ ofO (atD [.int (k / 3 % 13), .int (k / 3 % 13), .int (k / 3 % 10 ^ 30)] (k % 3)) = .ok (.int c) := by
      have a := Int.emod_nonneg (k / 3) (show (10 : Int) ^ 30 ≠ 0 by decide)
      have b := Int.emod_lt_of_pos (k / 3) (show (0 : Int) < 10 ^ 30 by decide)
      rcases (show k % 3 = 0 ∨ k % 3 = 1 ∨ k % 3 = 2 by omega) with h | h | h <;> rw [h]
      · exact ⟨k / 3 % 13, by omega, by omega, rfl⟩
      · exact ⟨k / 3 % 13, by omega, by omega, rfl⟩
      · exact ⟨k / 3 % 10 ^ 30, a, b, rfl⟩
    obtain ⟨m, m0, m1, me⟩ : ∃ (m : Int), 1 ≤ m ∧ m ≤ 10 ^ 6 ∧ ofO (atD [.int 4, .int (10 ^ 6)] (k2 % 2)) = .ok (.int m) := by
      rcases (show k2 % 2 = 0 ∨ k2 % 2 = 1 by omega) with h | h <;> rw [h]
      · exact ⟨4, by decide, by decide, rfl⟩
      · exact ⟨10 ^ 6, by decide, by decide, rfl⟩
    have v0 := Int.emod_nonneg (k2 / 2) (show m ≠ 0 by omega)
    have v1 := Int.emod_lt_of_pos (k2 / 2) (show 0 < m by omega)
    have hcs : ∀ z ∈ cs ++ [c], 0 ≤ z ∧ z < 10 ^ 30 := fun z hz => by
      rcases List.mem_append.mp hz with h | h
      · exact hc z h
      · rw [List.mem_singleton.mp h]; exact ⟨c0, c1⟩
    have lcs : (cs ++ [c]).length = i + 1 := by rw [List.length_append, hl]; rfl
    have hin : (x || y) = true → ∃ ρ2, (b_law_drawn_9 [.val (.lst (ns.map D.int)), .val (.int 8), .val (.int f), .val (.str v), .val (.int (1 + n)), .own ((cs ++ [c]).map D.int), .own (ws.map D.int), .val (.int (i : Int)), .val (.int k)]) = .ok (.nx ρ2) ∧ ∃ (cs ws : List Int) (a b : Sl), ρ2 = [.val (.lst (ns.map D.int)), .val (.int 8), .val (.int f), .val (.str v), .val (.int (1 + n)), .own (cs.map D.int), .own (ws.map D.int), a, b] ∧ cs.length = i + 1 ∧ (∀ c ∈ cs, 0 ≤ c ∧ c < 10 ^ 30) ∧ ((x || y) = true → ws.length = i + 1) ∧ ((x || y) = false → ws = []) ∧ ws.length ≤ i + 1 ∧ ∀ w ∈ ws, 1 ≤ w ∧ w ≤ 10 ^ 6 := fun hxy => by
      have lw := hm1 hxy
      refine ⟨[.val (.lst (ns.map D.int)), .val (.int 8), .val (.int f), .val (.str v), .val (.int (1 + n)), .own ((cs ++ [c]).map D.int), .own ((ws ++ [1 + k2 / 2 % m]).map D.int), .val (.int (i : Int)), .val (.int k2)], ?_, cs ++ [c], ws ++ [1 + k2 / 2 % m], _, _, rfl, lcs, hcs, (fun _ => by rw [List.length_append, lw]; rfl), (fun z => by rw [hxy] at z; cases z), by rw [List.length_append, lw]; exact Nat.le_refl _, fun z hz => ?_⟩
      · have fin' : (b_law_drawn_11 [.val (.lst (ns.map D.int)), .val (.int 8), .val (.int f), .val (.str v), .val (.int (1 + n)), .own ((cs ++ [c]).map D.int), .own (ws.map D.int), .val (.int (i : Int)), .val (.int k2)]) = .ok (.nx [.val (.lst (ns.map D.int)), .val (.int 8), .val (.int f), .val (.str v), .val (.int (1 + n)), .own ((cs ++ [c]).map D.int), .own ((ws ++ [1 + k2 / 2 % m]).map D.int), .val (.int (i : Int)), .val (.int k2)]) := by
          walk_at "ev"
          rw [oPow_i okp6]
          walk_at "ev"
          rw [oIx_l, me]
          walk_at "ev"
          rw [oMod_i (show m ≠ 0 by omega), fmod_pos _ (show 0 < m by omega)]
          walk_at "ev"
          rw [if_pos (by omega), List.map_append (l₁ := ws)]
          rfl
        unfold b_law_drawn_9
        generalize hK : (b_law_drawn_11 : Sv) = K at fin' ⊢
        have go : ((sSeq (sSet 8 (eOp oMod (eCall m_law_cell_at (aCons (eVar 0) (aCons (eOp oAdd (eOp oAdd (eC (.int 3)) (eVar 4)) (eVar 7)) aNil))) (eOp oPow (eC (.int 10)) (eC (.int 30))))) K) [.val (.lst (ns.map D.int)), .val (.int 8), .val (.int f), .val (.str v), .val (.int (1 + n)), .own ((cs ++ [c]).map D.int), .own (ws.map D.int), .val (.int (i : Int)), .val (.int k)]) = .ok (.nx [.val (.lst (ns.map D.int)), .val (.int 8), .val (.int f), .val (.str v), .val (.int (1 + n)), .own ((cs ++ [c]).map D.int), .own ((ws ++ [1 + k2 / 2 % m]).map D.int), .val (.int (i : Int)), .val (.int k2)]) := by
          walk_at "ev"
          rw [f_law_cell_at ns _ (by omega)]
          walk_at "ev"
          rw [hk2]
          exact fin'
        generalize hS : (sSeq (sSet 8 _) K : Sv) = S at go ⊢
        walk_at "ev"
        rw [hx]
        cases x with
        | true => walk_at "ev"; exact go
        | false =>
          walk_at "ev"
          rw [hy, show y = true from hxy]
          walk_at "ev"
          exact go
      · rcases List.mem_append.mp hz with h | h
        · exact hw z h
        · rw [List.mem_singleton.mp h]; exact ⟨by omega, by omega⟩
    have hout : (x || y) = false → (b_law_drawn_9 [.val (.lst (ns.map D.int)), .val (.int 8), .val (.int f), .val (.str v), .val (.int (1 + n)), .own ((cs ++ [c]).map D.int), .own (ws.map D.int), .val (.int (i : Int)), .val (.int k)]) = .ok (.nx [.val (.lst (ns.map D.int)), .val (.int 8), .val (.int f), .val (.str v), .val (.int (1 + n)), .own ((cs ++ [c]).map D.int), .own (ws.map D.int), .val (.int (i : Int)), .val (.int k)]) := fun hxy => by
      have hx' : x = false := by cases x <;> simp_all
      have hy' : y = false := by cases y <;> simp_all
      walk_at "ev"
      rw [hx, hx']
      walk_at "ev"
      rw [hy, hy']
      walk_at "ev"
    show ∃ ρ2, b_law_drawn_7 _ = .ok (.nx ρ2) ∧ _
    unfold b_law_drawn_7 b_law_drawn_8
    generalize hK : (b_law_drawn_9 : Sv) = K at hin hout ⊢
    walk_at "ev"
    rw [f_law_cell_at ns _ (by omega)]
    walk_at "ev"
    rw [hk, oIx_l, ce]
    walk_at "ev"
    rw [if_pos (by omega), show cs.map D.int ++ [D.int c] = (cs ++ [c]).map D.int by rw [List.map_append]; rfl]
    cases hxy : (x || y) with
    | true =>
      rw [hxy] at hin
      exact hin rfl
    | false =>
      rw [hxy] at hout
      exact ⟨_, hout rfl, cs ++ [c], ws, _, _, rfl, lcs, hcs, (fun z => by cases z), (fun _ => hm2 hxy), by omega, hw⟩
  · rintro ρ ⟨cs, ws, a, b, rfl, hl, hc, hm1, hm2, hm3, hw⟩
    rw [rng_ln] at hl hm1 hm3
    refine ⟨cs, ws, ?_, ⟨fun c h => (hc c h).1, fun c h => (hc c h).2, by omega, by omega⟩, by omega, ?_⟩
    · show (if (ws.map D.int).length ≤ 1000 ∧ (cs.map D.int).length ≤ 1000 ∧ 6 ≠ 5 then _ else _) = _
      rw [if_pos ⟨by rw [List.length_map]; omega, by rw [List.length_map]; omega, by decide⟩]
    cases hxy : (x || y) with
    | true => exact hb1 hxy ws cs ⟨by rw [hm1 hxy, hl], fun c h => (hw c h).1, fun c h => (hw c h).2⟩
    | false => rw [hm2 hxy]; exact hb2 hxy cs

theorem noLs_dql (l : List Rat) : noLs (l.map dq) = true := noLs_iff.mpr fun d h => by
  obtain ⟨q, _, rfl⟩ := List.mem_map.mp h
  exact noL_dq q
theorem sTri_i {j0 j1 j2 : Nat} {fs : Fv} {kf : List D → Res Tri} {ρ : Rho} {ds : List D} {t : Tri} (h1 : fs ρ = .ok ds) (h2 : kf ds = .ok t) : sTri j0 j1 j2 fs kf ρ = .ok (.nx (((ρ.set j0 (.val t.1)).set j1 (.val (.lst t.2.1))).set j2 (.own t.2.2))) := by
  unfold sTri
  rw [h1]
  show (kf ds).bind _ = _
  rw [h2]
  rfl
theorem law_go {ns : List Int} {w : Wy} {cs ws : List Int} (hc : Cl cs) (h2 : 2 ≤ cs.length) (hw : w.due ws cs) : (b_law_5 [.val (.lst (ns.map D.int)), .val (.str w.s), .val (.lst (ws.map D.int)), .own (cs.map D.int), .un, .un, .un, .un]).bind fin = .ok (.v (.bl true)) := by
  have hi := hc.hi
  have sm := hc.sum
  walk_at "ev"
  rw [f_law_cell_at ns 2 (by decide)]
  walk_at "ev"
  rw [slice_mid (by decide) (by decide), ← List.map_drop, ← List.map_take]
  walk_at "ev"
  rw [if_pos (by rw [List.length_take]; omega), show D.int (ns.getD 2 0) :: List.map D.int (List.take 5 (List.drop 19 ns)) = (ns.getD 2 0 :: List.take 5 (List.drop 19 ns)).map D.int from rfl]
  generalize (ns.getD 2 0 :: List.take 5 (List.drop 19 ns)) = ms
  walk_at "ev"
  refine loop_gl (Q := fun r => r.bind fin = .ok (.v (.bl true))) (k := seqF b_law_13) (fun i ρ => ∃ (a b c d : Sl), ρ = [.val (.lst (ns.map D.int)), .val (.str w.s), .val (.lst (ws.map D.int)), .own (cs.map D.int), a, b, c, d]) ⟨_, _, _, _, rfl⟩ ?_ ?_
  · rintro i d ρ hd ⟨s4, s5, s6, s7, rfl⟩
    obtain ⟨c, hcm, rfl⟩ := List.mem_map.mp (List.mem_of_getElem? hd)
    obtain ⟨q, eq, cq⟩ := f_law_caught (c := c / 5) sm.1 sm.2
    have hh := cq.haul sm.2
    obtain ⟨f, ef, af⟩ := f_dealt (m := 140) (by decide) hw hc hh
    have df := al_dl hw hc hh af
    have bf : Bd (140 + 370) cs f := ⟨df.bd⟩
    have dl : m_law_dealing [.lst (((List.range cs.length).map f).map dq), .lst (cs.map D.int), dq q] = .ok (.v (.bl true)) := f_law_dealing' hc df.bd hh.sz df.sum
    have two : ∀ i j, i < j → j < cs.length → m_law_of_two [.str w.s, .lst (ws.map D.int), .lst (cs.map D.int), .lst (((List.range cs.length).map f).map dq), .int (i : Int), .int (j : Int)] = .ok (.v (.bl ((fun _ _ => true) i j))) := fun i j h hj => by
      obtain ⟨g, ag, eg⟩ := f_of_two (by decide) hw hc bf (show i < cs.length by omega) hj
      rw [eg, decide_eq_true (al_two hw hc af df h hj ag)]
    obtain ⟨b1, eb1, hb1⟩ := f_pairs (by omega) rfl two
    rw [hb1.mpr fun _ _ _ _ => rfl] at eb1
    obtain ⟨x, a, b, ex, ha, hb, hab, sx, ox, bx⟩ := f_moved (by decide) hc h2 bf (c * 48271 + 7)
    have two' : ∀ i j, ∃ t, i < j → j < cs.length → m_law_of_two [.str w.s, .lst (ws.map D.int), .lst (cs.map D.int), .lst (((List.range cs.length).map x).map dq), .int (i : Int), .int (j : Int)] = .ok (.v (.bl t)) ∧ (t = true → (i = a ∧ j = b ∨ i = b ∧ j = a) → x i = f i ∧ x j = f j) := fun i j => by
      by_cases hj : i < j ∧ j < cs.length
      · obtain ⟨g, ag, eg⟩ := f_of_two (by decide) hw hc bx (show i < cs.length by omega) hj.2
        refine ⟨_, fun _ _ => ⟨eg, fun ht hab' => ?_⟩⟩
        have t := of_decide_eq_true ht
        have e : x i + x j = f i + f j := by
          rcases hab' with ⟨rfl, rfl⟩ | ⟨rfl, rfl⟩
          · exact sx
          · rw [Rat.add_comm, sx, Rat.add_comm]
        rw [e] at ag
        obtain ⟨k0, k1⟩ := al_two hw hc af df hj.1 hj.2 ag
        exact ⟨by rw [← t.1, k0], by rw [← t.2, k1]⟩
      · exact ⟨true, fun h h' => absurd ⟨h, h'⟩ hj⟩
    have T := fun i j => Classical.choose_spec (two' i j)
    generalize (fun i j => Classical.choose (two' i j)) = F at T
    obtain ⟨b2, eb2, hb2⟩ := f_pairs (T := fun i j => Classical.choose (two' i j)) (n := cs.length) (by omega) rfl (fun i j h hj => (T i j h hj).1)
    have key : b2 = true → ((List.range cs.length).map x) = ((List.range cs.length).map f) := fun h => by
      have al := hb2.mp h
      have both : x a = f a ∧ x b = f b := by
        rcases Nat.lt_or_gt_of_ne hab with h' | h'
        · exact (T a b h' hb).2 (al a b h' hb) (.inl ⟨rfl, rfl⟩)
        · have := (T b a h' ha).2 (al b a h' ha) (.inr ⟨rfl, rfl⟩)
          exact ⟨this.2, this.1⟩
      refine List.map_congr_left fun j _ => ?_
      by_cases e1 : j = a
      · rw [e1]; exact both.1
      · by_cases e2 : j = b
        · rw [e2]; exact both.2
        · exact ox j e1 e2
    refine ⟨[.val (.lst (ns.map D.int)), .val (.str w.s), .val (.lst (ws.map D.int)), .own (cs.map D.int), .val (.int c), .val (dq q), .val (.lst (((List.range cs.length).map f).map dq)), .val (.lst (((List.range cs.length).map x).map dq))], ?_, _, _, _, _, rfl⟩
    walk_at "ev"
    rw [eq]
    walk_at "ev"
    rw [ef]
    walk_at "ev"
    rw [if_pos (noLs_dql _)]
    walk_at "ev"
    rw [dl]
    walk_at "ev"
    rw [eb1]
    walk_at "ev"
    rw [ex]
    walk_at "ev"
    rw [if_pos (noLs_dql _)]
    walk_at "ev"
    rw [oNe_dql]
    walk_at "ev"
    by_cases z : List.map x (List.range cs.length) = List.map f (List.range cs.length)
    · rw [decide_eq_true z]
      walk_at "ev"
    · rw [decide_eq_false z]
      walk_at "ev"
      rw [eb2, show b2 = false by cases b2 with | false => rfl | true => exact absurd (key rfl) z]
      walk_at "ev"
  · rintro ρ ⟨a, b, c, d, rfl⟩
    rfl
theorem law_true : ∀ ns : List Int, ns.length ≤ 63 → m_law [.lst (ns.map D.int)] = .ok (.v (.bl true)) := by
  intro ns hl
  obtain ⟨w, cs, ws, e1, hc, h8, hw⟩ := f_drawn ns
  have go := fun cs ws hc h2 hw => @law_go ns w cs ws hc h2 hw
  unfold m_law b_law_2
  generalize hK : (b_law_5 : Sv) = K at go ⊢
  rw [fn_at (show [D.lst (ns.map D.int)].length = 1 from rfl)]
  show (sSeq (sTri 1 2 3 _ k_law_drawn) _ [.val (.lst (ns.map D.int)), .un, .un, .un, .un, .un, .un, .un]).bind fin = _
  rw [sSeq_i (sTri_i (by walk_at "ev") e1)]
  walk_at "ev"
  by_cases z : cs.length = 1
  · rw [decide_eq_true (show (cs.length : Int) = 1 by omega)]
    obtain ⟨a, rfl⟩ := List.length_eq_one_iff.mp z
    have u0 := Int.emod_nonneg (ns.getD 1 0) (show (13 : Int) ≠ 0 by decide)
    have u1 := Int.emod_lt_of_pos (ns.getD 1 0) (show (0 : Int) < 13 by decide)
    walk_at "ev"
    rw [f_law_cell_at ns 1 (by decide)]
    walk_at "ev"
    have hc' : Cl [a, ns.getD 1 0 % 13] := ⟨fun c h => by
      rcases List.mem_cons.mp h with rfl | h
      · exact hc.nn _ List.mem_cons_self
      · rw [List.mem_singleton.mp h]; exact u0, fun c h => by
      rcases List.mem_cons.mp h with rfl | h
      · exact hc.up _ List.mem_cons_self
      · rw [List.mem_singleton.mp h]; omega, by show 1 ≤ 2; decide, by show 2 ≤ 12; decide⟩
    rcases due_len hw with rfl | hw1
    · rw [List.length_nil, show repG [D.int 3] (.int ((0 : Nat) : Int)) = .ok [] from rfl]
      walk_at "ev"
      refine go [a, ns.getD 1 0 % 13] [] hc' (Nat.le_refl _) ?_
      cases w with
      | even => exact absurd hw.len (by simp)
      | lack => exact absurd hw.len (by simp)
      | row => rfl
      | back => rfl
      | part => rfl
      | half => rfl
    · obtain ⟨v, rfl⟩ := List.length_eq_one_iff.mp hw1
      rw [repG_1 (by show 1 ≤ 16777216; decide)]
      walk_at "ev"
      refine go [a, ns.getD 1 0 % 13] [v, 3] hc' (Nat.le_refl _) ?_
      have k : Wt [v] [a] → Wt [v, 3] [a, ns.getD 1 0 % 13] := fun hW => ⟨rfl, fun c h => by
        rcases List.mem_cons.mp h with rfl | h
        · exact hW.lo _ List.mem_cons_self
        · rw [List.mem_singleton.mp h]; decide, fun c h => by
        rcases List.mem_cons.mp h with rfl | h
        · exact hW.up _ List.mem_cons_self
        · rw [List.mem_singleton.mp h]; decide⟩
      cases w with
      | even => exact k hw
      | lack => exact k hw
      | row => exact absurd (show [v] = [] from hw) (by simp)
      | back => exact absurd (show [v] = [] from hw) (by simp)
      | part => exact absurd (show [v] = [] from hw) (by simp)
      | half => exact absurd (show [v] = [] from hw) (by simp)
  · rw [decide_eq_false (show ¬ (cs.length : Int) = 1 by omega)]
    walk_at "ev"
    have := hc.lo
    exact go cs ws hc (by omega) hw


end Lw

namespace Lw
open PySem PySem.Spec PyProof.Rows L2 L3
noncomputable def top (i : Nat) : Stmt := PySem.Challenge.pw_catchhall_k17_whole_each_two.main.body.getD i (.Pass ⟨0, 0, 0, 0⟩)
noncomputable abbrev s_common_divisor : Stmt := top 9
theorem sc_common_divisor : FnScope ["one", "two", "rest"] ["one", "two"] (defScope s_common_divisor) := ⟨rfl, rfl, rfl, by decide +kernel, rfl, by decide +kernel, by decide +kernel⟩
noncomputable abbrev s_made : Stmt := top 10
theorem sc_made : FnScope ["top", "bottom", "divisor"] ["top", "bottom"] (defScope s_made) := ⟨rfl, rfl, rfl, by decide +kernel, rfl, by decide +kernel, by decide +kernel⟩
noncomputable abbrev s_whole : Stmt := top 11
theorem sc_whole : FnScope ["number"] ["number"] (defScope s_whole) := ⟨rfl, rfl, rfl, by decide +kernel, rfl, by decide +kernel, by decide +kernel⟩
noncomputable abbrev s_plus : Stmt := top 12
theorem sc_plus : FnScope ["one", "two"] ["one", "two"] (defScope s_plus) := ⟨rfl, rfl, rfl, by decide +kernel, rfl, by decide +kernel, by decide +kernel⟩
noncomputable abbrev s_minus : Stmt := top 13
theorem sc_minus : FnScope ["one", "two"] ["one", "two"] (defScope s_minus) := ⟨rfl, rfl, rfl, by decide +kernel, rfl, by decide +kernel, by decide +kernel⟩
noncomputable abbrev s_times : Stmt := top 14
theorem sc_times : FnScope ["one", "two"] ["one", "two"] (defScope s_times) := ⟨rfl, rfl, rfl, by decide +kernel, rfl, by decide +kernel, by decide +kernel⟩
noncomputable abbrev s_over : Stmt := top 15
theorem sc_over : FnScope ["one", "two"] ["one", "two"] (defScope s_over) := ⟨rfl, rfl, rfl, by decide +kernel, rfl, by decide +kernel, by decide +kernel⟩
noncomputable abbrev s_less : Stmt := top 16
theorem sc_less : FnScope ["one", "two"] ["one", "two"] (defScope s_less) := ⟨rfl, rfl, rfl, by decide +kernel, rfl, by decide +kernel, by decide +kernel⟩
noncomputable abbrev s_lesser : Stmt := top 17
theorem sc_lesser : FnScope ["one", "two"] ["one", "two"] (defScope s_lesser) := ⟨rfl, rfl, rfl, by decide +kernel, rfl, by decide +kernel, by decide +kernel⟩
noncomputable abbrev s_is_outside : Stmt := top 18
theorem sc_is_outside : FnScope ["amount", "most"] ["amount", "most"] (defScope s_is_outside) := ⟨rfl, rfl, rfl, by decide +kernel, rfl, by decide +kernel, by decide +kernel⟩
noncomputable abbrev s_refuse_outside : Stmt := top 19
theorem sc_refuse_outside : FnScope ["amount", "most"] ["amount", "most"] (defScope s_refuse_outside) := ⟨rfl, rfl, rfl, by decide +kernel, rfl, by decide +kernel, by decide +kernel⟩
noncomputable abbrev s_ranked : Stmt := top 20
theorem sc_ranked : FnScope ["some", "bottom", "each"] ["some"] (defScope s_ranked) := ⟨rfl, rfl, rfl, by decide +kernel, rfl, by decide +kernel, by decide +kernel⟩
noncomputable abbrev s_looked : Stmt := top 25
theorem sc_looked : FnScope ["way", "weights", "claims"] ["way", "weights", "claims"] (defScope s_looked) := ⟨rfl, rfl, rfl, by decide +kernel, rfl, by decide +kernel, by decide +kernel⟩
noncomputable abbrev s_refuse_way : Stmt := top 26
theorem sc_refuse_way : FnScope ["way"] ["way"] (defScope s_refuse_way) := ⟨rfl, rfl, rfl, by decide +kernel, rfl, by decide +kernel, by decide +kernel⟩
noncomputable abbrev s_refuse_claims : Stmt := top 27
theorem sc_refuse_claims : FnScope ["claims", "claim"] ["claims"] (defScope s_refuse_claims) := ⟨rfl, rfl, rfl, by decide +kernel, rfl, by decide +kernel, by decide +kernel⟩
noncomputable abbrev s_refuse_weights : Stmt := top 28
theorem sc_refuse_weights : FnScope ["way", "weights", "many", "due", "weight"] ["way", "weights", "many"] (defScope s_refuse_weights) := ⟨rfl, rfl, rfl, by decide +kernel, rfl, by decide +kernel, by decide +kernel⟩
noncomputable abbrev s_dealt : Stmt := top 29
theorem sc_dealt : FnScope ["way", "weights", "claims", "catch"] ["way", "weights", "claims", "catch"] (defScope s_dealt) := ⟨rfl, rfl, rfl, by decide +kernel, rfl, by decide +kernel, by decide +kernel⟩
noncomputable abbrev s_rightly_dealt : Stmt := top 30
theorem sc_rightly_dealt : FnScope ["way", "weights", "claims", "catch", "most", "lacking"] ["way", "weights", "claims", "catch"] (defScope s_rightly_dealt) := ⟨rfl, rfl, rfl, by decide +kernel, rfl, by decide +kernel, by decide +kernel⟩
noncomputable abbrev s_row_dealt : Stmt := top 31
theorem sc_row_dealt : FnScope ["claims", "catch", "left", "amounts", "claim", "amount"] ["claims", "catch"] (defScope s_row_dealt) := ⟨rfl, rfl, rfl, by decide +kernel, rfl, by decide +kernel, by decide +kernel⟩
noncomputable abbrev s_even_dealt : Stmt := top 32
theorem sc_even_dealt : FnScope ["weights", "claims", "catch", "left", "weight", "amounts", "spot", "by_weight"] ["weights", "claims", "catch"] (defScope s_even_dealt) := ⟨rfl, rfl, rfl, by decide +kernel, rfl, by decide +kernel, by decide +kernel⟩
noncomputable abbrev s_levels_of : Stmt := top 33
theorem sc_levels_of : FnScope ["weights", "claims"] ["weights", "claims"] (defScope s_levels_of) := ⟨rfl, rfl, rfl, by decide +kernel, rfl, by decide +kernel, by decide +kernel⟩
noncomputable abbrev s_part_dealt : Stmt := top 34
theorem sc_part_dealt : FnScope ["claims", "catch", "most", "part"] ["claims", "catch"] (defScope s_part_dealt) := ⟨rfl, rfl, rfl, by decide +kernel, rfl, by decide +kernel, by decide +kernel⟩
noncomputable abbrev s_half_dealt : Stmt := top 35
theorem sc_half_dealt : FnScope ["claims", "catch", "ones"] ["claims", "catch"] (defScope s_half_dealt) := ⟨rfl, rfl, rfl, by decide +kernel, rfl, by decide +kernel, by decide +kernel⟩
noncomputable abbrev s_law_cell_at : Stmt := top 37
theorem sc_law_cell_at : FnScope ["script", "k"] ["script", "k"] (defScope s_law_cell_at) := ⟨rfl, rfl, rfl, by decide +kernel, rfl, by decide +kernel, by decide +kernel⟩
noncomputable abbrev s_law_fraction : Stmt := top 38
theorem sc_law_fraction : FnScope ["top", "bottom", "one", "two", "rest"] ["top", "bottom"] (defScope s_law_fraction) := ⟨rfl, rfl, rfl, by decide +kernel, rfl, by decide +kernel, by decide +kernel⟩
noncomputable abbrev s_law_drawn : Stmt := top 39
theorem sc_law_drawn : FnScope ["script", "most", "one", "way", "many", "claims", "weights", "k", "cell"] ["script", "most"] (defScope s_law_drawn) := ⟨rfl, rfl, rfl, by decide +kernel, rfl, by decide +kernel, by decide +kernel⟩
noncomputable abbrev s_law_caught : Stmt := top 40
theorem sc_law_caught : FnScope ["cell", "whole_v", "bottom"] ["cell", "whole_v"] (defScope s_law_caught) := ⟨rfl, rfl, rfl, by decide +kernel, rfl, by decide +kernel, by decide +kernel⟩
noncomputable abbrev s_law_is_fraction : Stmt := top 41
theorem sc_law_is_fraction : FnScope ["found", "number"] ["found"] (defScope s_law_is_fraction) := ⟨rfl, rfl, rfl, by decide +kernel, rfl, by decide +kernel, by decide +kernel⟩
noncomputable abbrev s_law_sum_is : Stmt := top 42
theorem sc_law_sum_is : FnScope ["gets", "catch", "top", "bottom", "share"] ["gets", "catch"] (defScope s_law_sum_is) := ⟨rfl, rfl, rfl, by decide +kernel, rfl, by decide +kernel, by decide +kernel⟩
noncomputable abbrev s_law_dealing : Stmt := top 43
theorem sc_law_dealing : FnScope ["found", "claims", "catch", "share", "claim"] ["found", "claims", "catch"] (defScope s_law_dealing) := ⟨rfl, rfl, rfl, by decide +kernel, rfl, by decide +kernel, by decide +kernel⟩
noncomputable abbrev s_law_of_two : Stmt := top 44
theorem sc_law_of_two : FnScope ["way", "weights", "claims", "gets", "one", "other", "pair", "catch", "found"] ["way", "weights", "claims", "gets", "one", "other"] (defScope s_law_of_two) := ⟨rfl, rfl, rfl, by decide +kernel, rfl, by decide +kernel, by decide +kernel⟩
noncomputable abbrev s_law_added : Stmt := top 45
theorem sc_law_added : FnScope ["one", "two"] ["one", "two"] (defScope s_law_added) := ⟨rfl, rfl, rfl, by decide +kernel, rfl, by decide +kernel, by decide +kernel⟩
noncomputable abbrev s_law_pairs_right : Stmt := top 46
theorem sc_law_pairs_right : FnScope ["way", "weights", "claims", "gets", "other", "one"] ["way", "weights", "claims", "gets"] (defScope s_law_pairs_right) := ⟨rfl, rfl, rfl, by decide +kernel, rfl, by decide +kernel, by decide +kernel⟩
noncomputable abbrev s_law_moved : Stmt := top 47
theorem sc_law_moved : FnScope ["claims", "gets", "cell", "one", "other", "part", "place", "more", "found"] ["claims", "gets", "cell"] (defScope s_law_moved) := ⟨rfl, rfl, rfl, by decide +kernel, rfl, by decide +kernel, by decide +kernel⟩
noncomputable abbrev s_law : Stmt := top 48
theorem sc_law : FnScope ["script", "way", "weights", "claims", "cell", "catch", "gets", "moved"] ["script"] (defScope s_law) := ⟨rfl, rfl, rfl, by decide +kernel, rfl, by decide +kernel, by decide +kernel⟩
structure Bt (mg : Str → Option Value) : Prop where
  abs : mg "abs" = none
  sorted : mg "sorted" = none
  range : mg "range" = none
  len : mg "len" = none
  sum : mg "sum" = none
  zip : mg "zip" = none
  isinstance : mg "isinstance" = none
  tuple : mg "tuple" = none
  bool : mg "bool" = none
  int : mg "int" = none
  list : mg "list" = none
structure Kt (K : PySem.W.Frag) : Prop where
  bool : Kit K "bool"
  int : Kit K "int"
  list : Kit K "list"
  tuple : Kit K "tuple"
structure Ct (K : PySem.W.Frag) (mg : Str → Option Value) : Prop where
  HALF : ∃ v u, mg "HALF" = some u ∧ RelV v u ∧ IsD K (fun _ => none) v d_HALF
  NOUGHT : ∃ v u, mg "NOUGHT" = some u ∧ RelV v u ∧ IsD K (fun _ => none) v d_NOUGHT
  WEIGHTED : ∃ v u, mg "WEIGHTED" = some u ∧ RelV v u ∧ IsD K (fun _ => none) v d_WEIGHTED
  CONTRARY : ∃ a, IsTab K mg "CONTRARY" t_CONTRARY a
structure Rt (K : PySem.W.Frag) (mg : Str → Option Value) : Prop where
  BadClaim : ∃ C, Err K mg "BadClaim" C
  BadWay : ∃ C, Err K mg "BadWay" C
  BadWeights : ∃ C, Err K mg "BadWeights" C
  NoFraction : ∃ C, Err K mg "NoFraction" C
  Outside : ∃ C, Err K mg "Outside" C
structure Et (K : PySem.W.Frag) (mg : Str → Option Value) : Prop where
theorem ct_mk {K : PySem.W.Frag} {h : Heap} {mg : Str → Option Value} {t0 t1 t2 t3 t4 t5 : Tok} {pHALF0 : Addr} {o_pHALF0 : Option Addr} {n_pHALF0 : Nat} {s_pHALF0 : Array (Option Value)} {pNOUGHT1 : Addr} {o_pNOUGHT1 : Option Addr} {n_pNOUGHT1 : Nat} {s_pNOUGHT1 : Array (Option Value)} {pWEIGHTED2 : Addr} {o_pWEIGHTED2 : Option Addr} {n_pWEIGHTED2 : Nat} {s_pWEIGHTED2 : Array (Option Value)} {a_CONTRARY : Addr} (X : K.In h) (G : h.Ns mainGlobals mg) (n_HALF : PySem.W.nsIn K mainGlobals "HALF" = some (some (.ref pHALF0))) (pHALF0_l : K.lookup pHALF0 = some ⟨.type "tuple", o_pHALF0, .seq #[.int (1) t0, .int (2) t1] n_pHALF0, s_pHALF0⟩) (n_NOUGHT : PySem.W.nsIn K mainGlobals "NOUGHT" = some (some (.ref pNOUGHT1))) (pNOUGHT1_l : K.lookup pNOUGHT1 = some ⟨.type "tuple", o_pNOUGHT1, .seq #[.int (0) t2, .int (1) t3] n_pNOUGHT1, s_pNOUGHT1⟩) (n_WEIGHTED : PySem.W.nsIn K mainGlobals "WEIGHTED" = some (some (.ref pWEIGHTED2))) (pWEIGHTED2_l : K.lookup pWEIGHTED2 = some ⟨.type "tuple", o_pWEIGHTED2, .seq #[.str "even" t4, .str "lack" t5] n_pWEIGHTED2, s_pWEIGHTED2⟩) (n_CONTRARY : PySem.W.nsIn K mainGlobals "CONTRARY" = some (some (.ref a_CONTRARY))) (t_CONTRARY : PyProof.Rows.KTD.tabLook (PyProof.Rows.KTD.datLooks fun a => K.lookup a) (fun a => K.lookup a) a_CONTRARY (tabD Lw.t_CONTRARY) = true) : Ct K mg := ⟨⟨.ref pHALF0, _, PySem.W.mg_of X G n_HALF, rfl, (.tup (.inr ⟨_, _, _, pHALF0_l, rfl, rfl, Nat.le_of_ble_eq_true rfl, (.cons (show RelV (.int (1)) _ from ⟨_, rfl⟩) (.cons (show RelV (.int (2)) _ from ⟨_, rfl⟩) .nil))⟩) (.cons (.int _) (.cons (.int _) .nil)))⟩, ⟨.ref pNOUGHT1, _, PySem.W.mg_of X G n_NOUGHT, rfl, (.tup (.inr ⟨_, _, _, pNOUGHT1_l, rfl, rfl, Nat.le_of_ble_eq_true rfl, (.cons (show RelV (.int (0)) _ from ⟨_, rfl⟩) (.cons (show RelV (.int (1)) _ from ⟨_, rfl⟩) .nil))⟩) (.cons (.int _) (.cons (.int _) .nil)))⟩, ⟨.ref pWEIGHTED2, _, PySem.W.mg_of X G n_WEIGHTED, rfl, (.tup (.inr ⟨_, _, _, pWEIGHTED2_l, rfl, rfl, Nat.le_of_ble_eq_true rfl, (.cons (show RelV (.str "even") _ from ⟨_, rfl⟩) (.cons (show RelV (.str "lack") _ from ⟨_, rfl⟩) .nil))⟩) (.cons (.str _) (.cons (.str _) .nil)))⟩, ⟨a_CONTRARY, PySem.W.mg_of X G n_CONTRARY, fun h X => PyProof.Rows.KTD.text_of_look X t_CONTRARY⟩⟩
theorem rt_mk {K : PySem.W.Frag} {h : Heap} {mg : Str → Option Value} {C_BadClaim : Addr} {C_BadWay : Addr} {C_BadWeights : Addr} {C_NoFraction : Addr} {C_Outside : Addr} (X : K.In h) (G : h.Ns mainGlobals mg) (n_BadClaim : PySem.W.nsIn K mainGlobals "BadClaim" = some (some (.ref C_BadClaim))) (x_BadClaim : PySem.W.excIn K C_BadClaim [.type "ValueError", .type "Exception", .type "BaseException", .type "object"] "ValueError.__new__" = true) (n_BadWay : PySem.W.nsIn K mainGlobals "BadWay" = some (some (.ref C_BadWay))) (x_BadWay : PySem.W.excIn K C_BadWay [.type "ValueError", .type "Exception", .type "BaseException", .type "object"] "ValueError.__new__" = true) (n_BadWeights : PySem.W.nsIn K mainGlobals "BadWeights" = some (some (.ref C_BadWeights))) (x_BadWeights : PySem.W.excIn K C_BadWeights [.type "ValueError", .type "Exception", .type "BaseException", .type "object"] "ValueError.__new__" = true) (n_NoFraction : PySem.W.nsIn K mainGlobals "NoFraction" = some (some (.ref C_NoFraction))) (x_NoFraction : PySem.W.excIn K C_NoFraction [.type "ValueError", .type "Exception", .type "BaseException", .type "object"] "ValueError.__new__" = true) (n_Outside : PySem.W.nsIn K mainGlobals "Outside" = some (some (.ref C_Outside))) (x_Outside : PySem.W.excIn K C_Outside [.type "ValueError", .type "Exception", .type "BaseException", .type "object"] "ValueError.__new__" = true) : Rt K mg := ⟨err_mk X G n_BadClaim x_BadClaim PySem.F.excBase_ValueError, err_mk X G n_BadWay x_BadWay PySem.F.excBase_ValueError, err_mk X G n_BadWeights x_BadWeights PySem.F.excBase_ValueError, err_mk X G n_NoFraction x_NoFraction PySem.F.excBase_ValueError, err_mk X G n_Outside x_Outside PySem.F.excBase_ValueError⟩
theorem et_mk {K : PySem.W.Frag} {h : Heap} {mg : Str → Option Value} (X : K.In h) (G : h.Ns mainGlobals mg) : Et K mg := ⟨⟩
section
variable {P : Program} {w : World} {K : PySem.W.Frag} {mg : Str → Option Value} {base : Heap} {k : Nat} {f : Addr} {fd : FuncData}
theorem ok_common_divisor (F : Fn K mg "common_divisor" s_common_divisor ["one", "two"] f fd) (B : Bt mg) (KT : Kt K) (C : Ct K mg) (R : Rt K mg) (ET : Et K mg)  : CanM P w K mg base (k + 1) "common_divisor" ["one", "two"] m_common_divisor :=
  fn_pure F sc_common_divisor fun cdv A outer s H E G W WR => (ss_cons (s_set (i := 0) sc_common_divisor.nd rfl (Or.inl rfl) (pd_callB call_abs kb_abs rfl B.abs boot_abs (as_cons (pd_var 0 (pv 0)) as_nil star_nm)))
 (ss_cons (s_set (i := 1) sc_common_divisor.nd rfl (Or.inl rfl) (pd_callB call_abs kb_abs rfl B.abs boot_abs (as_cons (pd_var 1 (pv 1)) as_nil star_nm)))
 (ss_cons (s_while W.own (tst (neA W.u) k_ne (pd_var 1 (pv 1)) (pd_c pe_int fun _ => .int _) (nomark _)) (ss_cons (s_set (i := 2) sc_common_divisor.nd rfl (Or.inl rfl) (pd_op op_modN k_mod (pd_var 0 (pv 0)) (pd_var 1 (pv 1))))
 (ss_cons (s_set (i := 0) sc_common_divisor.nd rfl (Or.inl rfl) (pd_var 1 (pv 1)))
 (ss_one (s_set (i := 1) sc_common_divisor.nd rfl (Or.inl rfl) (pd_var 2 (pv 2)))))))
 (ss_one (s_ret (pd_var 0 (pv 0)))))))
theorem ok_whole (F : Fn K mg "whole" s_whole ["number"] f fd) (B : Bt mg) (KT : Kt K) (C : Ct K mg) (R : Rt K mg) (ET : Et K mg)  : CanM P w K mg base (k + 1) "whole" ["number"] m_whole :=
  fn_pure F sc_whole fun cdv A outer s H E G W WR => (ss_one (s_ret (pd_tup (as_cons (pd_var 0 (pv 0)) (as_cons (pd_c pe_int fun _ => .int _) as_nil star_c) star_nm))))
theorem ok_less (F : Fn K mg "less" s_less ["one", "two"] f fd) (B : Bt mg) (KT : Kt K) (C : Ct K mg) (R : Rt K mg) (ET : Et K mg)  : CanM P w K mg base (k + 1) "less" ["one", "two"] m_less :=
  fn_pure F sc_less fun cdv A outer s H E G W WR => (ss_one (s_ret (pd_cmp op_lt k_lt (pd_op op_mulA k_mul (pd_ix ix_both k_ix (pd_var 0 (pv 0)) (pd_c pe_int fun _ => .int _) (fun _ _ => rfl)) (pd_ix ix_both k_ix (pd_var 1 (pv 1)) (pd_c pe_int fun _ => .int _) (fun _ _ => rfl))) (pd_op op_mulA k_mul (pd_ix ix_both k_ix (pd_var 1 (pv 1)) (pd_c pe_int fun _ => .int _) (fun _ _ => rfl)) (pd_ix ix_both k_ix (pd_var 0 (pv 0)) (pd_c pe_int fun _ => .int _) (fun _ _ => rfl))) (nomark _))))
theorem rd_ranked : RankDef s_ranked := ⟨rfl, rfl, rfl, rfl, rfl, fun _ _ _ => ⟨_, _, rfl, rfl, rfl⟩⟩
theorem ok_ranked (F : Fn K mg "ranked" s_ranked ["some"] f fd) (B : Bt mg) (KT : Kt K) (C : Ct K mg) (R : Rt K mg) (ET : Et K mg) {T : Addr} (hT : IsTabP K mg T) (hB : BMn base mg) : CanR P w K mg base (k + 1) k_ranked :=
  fn_rank F sc_ranked rd_ranked hT hB B.sorted B.range B.len rfl fun cdv A outer s H E G W WR => ⟨(s_set (i := 1) sc_ranked.nd rfl (Or.inr rfl) (pd_c pe_int fun _ => .int _)), (s_for W.own W.calm (i_seq (pd_var 0 (pv 0))) (g_name (i := 2) sc_ranked.nd rfl (Or.inl rfl)) gne_name (ss_one (s_set (i := 1) sc_ranked.nd rfl (Or.inr rfl) (pd_op op_mulA k_mul (pd_var 1 (pv 1)) (pd_ix ix_both k_ix (pd_var 2 (pv 2)) (pd_c pe_int fun _ => .int _) (fun _ _ => rfl))))))⟩
theorem ok_refuse_way (F : Fn K mg "refuse_way" s_refuse_way ["way"] f fd) (B : Bt mg) (KT : Kt K) (C : Ct K mg) (R : Rt K mg) (ET : Et K mg)  : CanM P w K mg base (k + 1) "refuse_way" ["way"] m_refuse_way :=
  fn_pure F sc_refuse_way fun cdv A outer s H E G W WR => (ss_one (s_if (tst_notT C.CONTRARY.choose_spec rfl (pd_var 0 (pv 0)) (by with_unfolding_all rfl)) (ss_one (s_raise W WR R.BadWay rfl (as_cons (pd_c pe_str fun _ => .str _) as_nil star_c))) ss_nil))
theorem ok_refuse_claims (F : Fn K mg "refuse_claims" s_refuse_claims ["claims"] f fd) (B : Bt mg) (KT : Kt K) (C : Ct K mg) (R : Rt K mg) (ET : Et K mg)  : CanM P w K mg base (k + 1) "refuse_claims" ["claims"] m_refuse_claims :=
  fn_pure F sc_refuse_claims fun cdv A outer s H E G W WR => (ss_cons (s_if (tst (eqA W.u) k_eq (pd_callB call_len_seq kb_len rfl B.len PySem.boot_len (as_cons (pd_var 0 (pv 0)) as_nil star_nm)) (pd_c pe_int fun _ => .int _) (nomark _)) (ss_one (s_raise W WR R.BadClaim rfl (as_cons (pd_c pe_str fun _ => .str _) as_nil star_c))) ss_nil)
 (ss_one (s_for W.own W.calm (i_seq (pd_var 0 (pv 0))) (g_name (i := 1) sc_refuse_claims.nd rfl (Or.inl rfl)) gne_name (ss_one (s_if (tst op_lt k_lt (pd_var 1 (pv 1)) (pd_c pe_int fun _ => .int _) (nomark _)) (ss_one (s_raise W WR R.BadClaim rfl (as_cons (pd_c pe_str fun _ => .str _) as_nil star_c))) ss_nil)))))
theorem ok_refuse_weights (F : Fn K mg "refuse_weights" s_refuse_weights ["way", "weights", "many"] f fd) (B : Bt mg) (KT : Kt K) (C : Ct K mg) (R : Rt K mg) (ET : Et K mg)  : CanM P w K mg base (k + 1) "refuse_weights" ["way", "weights", "many"] m_refuse_weights :=
  fn_pure F sc_refuse_weights fun cdv A outer s H E G W WR => (ss_cons (s_set (i := 3) sc_refuse_weights.nd rfl (Or.inl rfl) (pd_if (tst (inA W.u) k_in (pd_var 0 (pv 0)) (pd_glob rfl C.WEIGHTED) (by with_unfolding_all rfl)) (pd_var 2 (pv 2)) (pd_c pe_int fun _ => .int _)))
 (ss_cons (s_if (tst (neA W.u) k_ne (pd_callB call_len_seq kb_len rfl B.len PySem.boot_len (as_cons (pd_var 1 (pv 1)) as_nil star_nm)) (pd_var 3 (pv 3)) (nomark _)) (ss_one (s_raise W WR R.BadWeights rfl (as_cons (pd_c pe_str fun _ => .str _) as_nil star_c))) ss_nil)
 (ss_one (s_for W.own W.calm (i_seq (pd_var 1 (pv 1))) (g_name (i := 4) sc_refuse_weights.nd rfl (Or.inl rfl)) gne_name (ss_one (s_if (PWd.pt (w_or (tst op_lt k_lt (pd_var 4 (pv 4)) (pd_c pe_int fun _ => .int _) (nomark _)) (w_or1 (tst op_gt k_gt (pd_var 4 (pv 4)) (pd_op op_powA k_pow (pd_c pe_int fun _ => .int _) (pd_c pe_int fun _ => .int _)) (nomark _))))) (ss_one (s_raise W WR R.BadWeights rfl (as_cons (pd_c pe_str fun _ => .str _) as_nil star_c))) ss_nil))))))
theorem ok_law_cell_at (F : Fn K mg "_law_cell_at" s_law_cell_at ["script", "k"] f fd) (B : Bt mg) (KT : Kt K) (C : Ct K mg) (R : Rt K mg) (ET : Et K mg)  : CanM P w K mg base (k + 1) "_law_cell_at" ["script", "k"] m_law_cell_at :=
  fn_pure F sc_law_cell_at fun cdv A outer s H E G W WR => (ss_cons (s_if (tst op_lt k_lt (pd_var 1 (pv 1)) (pd_callB call_len_seq kb_len rfl B.len PySem.boot_len (as_cons (pd_var 0 (pv 0)) as_nil star_nm)) (nomark _)) (ss_one (s_ret (pd_ix ix_both k_ix (pd_var 0 (pv 0)) (pd_var 1 (pv 1)) (fun _ _ => rfl)))) ss_nil)
 (ss_one (s_ret (pd_c pe_int fun _ => .int _))))
theorem ok_law_fraction (F : Fn K mg "_law_fraction" s_law_fraction ["top", "bottom"] f fd) (B : Bt mg) (KT : Kt K) (C : Ct K mg) (R : Rt K mg) (ET : Et K mg)  : CanM P w K mg base (k + 1) "_law_fraction" ["top", "bottom"] m_law_fraction :=
  fn_pure F sc_law_fraction fun cdv A outer s H E G W WR => (ss_cons (s_set (i := 2) sc_law_fraction.nd rfl (Or.inl rfl) (pd_callB call_abs kb_abs rfl B.abs boot_abs (as_cons (pd_var 0 (pv 0)) as_nil star_nm)))
 (ss_cons (s_set (i := 3) sc_law_fraction.nd rfl (Or.inl rfl) (pd_var 1 (pv 1)))
 (ss_cons (s_while W.own (tst op_gt k_gt (pd_var 3 (pv 3)) (pd_c pe_int fun _ => .int _) (nomark _)) (ss_cons (s_set (i := 4) sc_law_fraction.nd rfl (Or.inl rfl) (pd_op op_modN k_mod (pd_var 2 (pv 2)) (pd_var 3 (pv 3))))
 (ss_cons (s_set (i := 2) sc_law_fraction.nd rfl (Or.inl rfl) (pd_var 3 (pv 3)))
 (ss_one (s_set (i := 3) sc_law_fraction.nd rfl (Or.inl rfl) (pd_var 4 (pv 4)))))))
 (ss_cons (s_if (tst (eqA W.u) k_eq (pd_var 2 (pv 2)) (pd_c pe_int fun _ => .int _) (nomark _)) (ss_one (s_ret (pd_tup (as_cons (pd_c pe_int fun _ => .int _) (as_cons (pd_c pe_int fun _ => .int _) as_nil star_c) star_c)))) ss_nil)
 (ss_one (s_ret (pd_tup (as_cons (pd_op op_divA k_div (pd_var 0 (pv 0)) (pd_var 2 (pv 2))) (as_cons (pd_op op_divA k_div (pd_var 1 (pv 1)) (pd_var 2 (pv 2))) as_nil star_bin) star_bin))))))))
theorem ok_law_sum_is (F : Fn K mg "_law_sum_is" s_law_sum_is ["gets", "catch"] f fd) (B : Bt mg) (KT : Kt K) (C : Ct K mg) (R : Rt K mg) (ET : Et K mg)  : CanM P w K mg base (k + 1) "_law_sum_is" ["gets", "catch"] m_law_sum_is :=
  fn_pure F sc_law_sum_is fun cdv A outer s H E G W WR => (ss_cons (s_set (i := 2) sc_law_sum_is.nd rfl (Or.inl rfl) (pd_c pe_int fun _ => .int _))
 (ss_cons (s_set (i := 3) sc_law_sum_is.nd rfl (Or.inl rfl) (pd_c pe_int fun _ => .int _))
 (ss_cons (s_for W.own W.calm (i_seq (pd_var 0 (pv 0))) (g_name (i := 4) sc_law_sum_is.nd rfl (Or.inl rfl)) gne_name (ss_cons (s_set (i := 2) sc_law_sum_is.nd rfl (Or.inl rfl) (pd_op op_addA k_add (pd_op op_mulA k_mul (pd_var 2 (pv 2)) (pd_ix ix_both k_ix (pd_var 4 (pv 4)) (pd_c pe_int fun _ => .int _) (fun _ _ => rfl))) (pd_op op_mulA k_mul (pd_ix ix_both k_ix (pd_var 4 (pv 4)) (pd_c pe_int fun _ => .int _) (fun _ _ => rfl)) (pd_var 3 (pv 3)))))
 (ss_one (s_set (i := 3) sc_law_sum_is.nd rfl (Or.inl rfl) (pd_op op_mulA k_mul (pd_var 3 (pv 3)) (pd_ix ix_both k_ix (pd_var 4 (pv 4)) (pd_c pe_int fun _ => .int _) (fun _ _ => rfl)))))))
 (ss_one (s_ret (pd_cmp (eqA W.u) k_eq (pd_op op_mulA k_mul (pd_var 2 (pv 2)) (pd_ix ix_both k_ix (pd_var 1 (pv 1)) (pd_c pe_int fun _ => .int _) (fun _ _ => rfl))) (pd_op op_mulA k_mul (pd_ix ix_both k_ix (pd_var 1 (pv 1)) (pd_c pe_int fun _ => .int _) (fun _ _ => rfl)) (pd_var 3 (pv 3))) (nomark _)))))))
theorem ok_made (F : Fn K mg "made" s_made ["top", "bottom"] f fd) (B : Bt mg) (KT : Kt K) (C : Ct K mg) (R : Rt K mg) (ET : Et K mg) (c_common_divisor : CanM P w K mg base k "common_divisor" ["one", "two"] m_common_divisor) : CanM P w K mg base (k + 1) "made" ["top", "bottom"] m_made :=
  fn_pure F sc_made fun cdv A outer s H E G W WR => (ss_cons (s_if (tst (eqA W.u) k_eq (pd_var 1 (pv 1)) (pd_c pe_int fun _ => .int _) (nomark _)) (ss_one (s_raise W WR R.NoFraction rfl (as_cons (pd_c pe_str fun _ => .str _) as_nil star_c))) ss_nil)
 (ss_cons (s_set (i := 2) sc_made.nd rfl (Or.inl rfl) (pd_call W c_common_divisor rfl (as_cons (pd_var 0 (pv 0)) (as_cons (pd_var 1 (pv 1)) as_nil star_nm) star_nm)))
 (ss_cons (s_if (tst op_lt k_lt (pd_var 1 (pv 1)) (pd_c pe_int fun _ => .int _) (nomark _)) (ss_one (s_set (i := 2) sc_made.nd rfl (Or.inl rfl) (pd_neg (pd_var 2 (pv 2))))) ss_nil)
 (ss_one (s_ret (pd_tup (as_cons (pd_op op_divA k_div (pd_var 0 (pv 0)) (pd_var 2 (pv 2))) (as_cons (pd_op op_divA k_div (pd_var 1 (pv 1)) (pd_var 2 (pv 2))) as_nil star_bin) star_bin)))))))
theorem ok_lesser (F : Fn K mg "lesser" s_lesser ["one", "two"] f fd) (B : Bt mg) (KT : Kt K) (C : Ct K mg) (R : Rt K mg) (ET : Et K mg) (c_less : CanM P w K mg base k "less" ["one", "two"] m_less) : CanM P w K mg base (k + 1) "lesser" ["one", "two"] m_lesser :=
  fn_pure F sc_lesser fun cdv A outer s H E G W WR => (ss_one (s_ret (pd_if (pt_v (pd_call W c_less rfl (as_cons (pd_var 0 (pv 0)) (as_cons (pd_var 1 (pv 1)) as_nil star_nm) star_nm))) (pd_var 0 (pv 0)) (pd_var 1 (pv 1)))))
theorem ok_is_outside (F : Fn K mg "is_outside" s_is_outside ["amount", "most"] f fd) (B : Bt mg) (KT : Kt K) (C : Ct K mg) (R : Rt K mg) (ET : Et K mg) (c_less : CanM P w K mg base k "less" ["one", "two"] m_less) : CanM P w K mg base (k + 1) "is_outside" ["amount", "most"] m_is_outside :=
  fn_pure F sc_is_outside fun cdv A outer s H E G W WR => (ss_one (s_ret (pd_or (pd_call W c_less rfl (as_cons (pd_var 0 (pv 0)) (as_cons (pd_glob rfl C.NOUGHT) as_nil star_nm) star_nm)) (pd_one (pd_call W c_less rfl (as_cons (pd_var 1 (pv 1)) (as_cons (pd_var 0 (pv 0)) as_nil star_nm) star_nm))))))
theorem ok_looked (F : Fn K mg "looked" s_looked ["way", "weights", "claims"] f fd) (B : Bt mg) (KT : Kt K) (C : Ct K mg) (R : Rt K mg) (ET : Et K mg) (c_refuse_way : CanM P w K mg base k "refuse_way" ["way"] m_refuse_way) (c_refuse_claims : CanM P w K mg base k "refuse_claims" ["claims"] m_refuse_claims) (c_refuse_weights : CanM P w K mg base k "refuse_weights" ["way", "weights", "many"] m_refuse_weights) : CanM P w K mg base (k + 1) "looked" ["way", "weights", "claims"] m_looked :=
  fn_pure F sc_looked fun cdv A outer s H E G W WR => (ss_cons (s_expr (pd_call W c_refuse_way rfl (as_cons (pd_var 0 (pv 0)) as_nil star_nm)))
 (ss_cons (s_expr (pd_call W c_refuse_claims rfl (as_cons (pd_var 2 (pv 2)) as_nil star_nm)))
 (ss_one (s_expr (pd_call W c_refuse_weights rfl (as_cons (pd_var 0 (pv 0)) (as_cons (pd_var 1 (pv 1)) (as_cons (pd_callB call_len_seq kb_len rfl B.len PySem.boot_len (as_cons (pd_var 2 (pv 2)) as_nil star_nm)) as_nil star_call) star_nm) star_nm))))))
theorem ok_law_drawn (F : Fn K mg "_law_drawn" s_law_drawn ["script", "most"] f fd) (B : Bt mg) (KT : Kt K) (C : Ct K mg) (R : Rt K mg) (ET : Et K mg) (c_law_cell_at : CanM P w K mg base k "_law_cell_at" ["script", "k"] m_law_cell_at) : CanT P w K mg base (k + 1) "_law_drawn" ["script", "most"] k_law_drawn :=
  fn_tri F sc_law_drawn fun cdv A outer s H E G W WR => (su_cons (s_set (i := 2) sc_law_drawn.nd rfl (Or.inl rfl) (pd_op op_modN k_mod (pd_call W c_law_cell_at rfl (as_cons (pd_var 0 (pv 0)) (as_cons (pd_c pe_int fun _ => .int _) as_nil star_c) star_nm)) (pd_op op_powA k_pow (pd_c pe_int fun _ => .int _) (pd_c pe_int fun _ => .int _))))
 (su_cons (s_set (i := 3) sc_law_drawn.nd rfl (Or.inl rfl) (pd_ix ix_both k_ix (PEf.d (pf_lst (as_cons (pd_c pe_str fun _ => .str _) (as_cons (pd_c pe_str fun _ => .str _) (as_cons (pd_c pe_str fun _ => .str _) (as_cons (pd_c pe_str fun _ => .str _) (as_cons (pd_c pe_str fun _ => .str _) (as_cons (pd_c pe_str fun _ => .str _) as_nil star_c) star_c) star_c) star_c) star_c) star_c))) (pd_op op_modN k_mod (pd_var 2 (pv 2)) (pd_c pe_int fun _ => .int _)) (fun _ _ => rfl)))
 (su_cons (s_set (i := 4) sc_law_drawn.nd rfl (Or.inl rfl) (pd_op op_addA k_add (pd_c pe_int fun _ => .int _) (pd_op op_modN k_mod (pd_op op_divA k_div (pd_var 2 (pv 2)) (pd_c pe_int fun _ => .int _)) (pd_var 1 (pv 1)))))
 (su_cons (s_own (i := 5) sc_law_drawn.nd rfl (Or.inl rfl) (pf_lst as_nil))
 (su_cons (s_own (i := 6) sc_law_drawn.nd rfl (Or.inl rfl) (pf_lst as_nil))
 (su_cons (s_for W.own W.calm (i_rng1 rfl B.range (as_cons (pd_var 4 (pv 4)) as_nil star_nm)) (g_name (i := 7) sc_law_drawn.nd rfl (Or.inl rfl)) gne_name (ss_cons (s_set (i := 8) sc_law_drawn.nd rfl (Or.inl rfl) (pd_op op_modN k_mod (pd_call W c_law_cell_at rfl (as_cons (pd_var 0 (pv 0)) (as_cons (pd_op op_addA k_add (pd_c pe_int fun _ => .int _) (pd_var 7 (pv 7))) as_nil star_bin) star_nm)) (pd_op op_powA k_pow (pd_c pe_int fun _ => .int _) (pd_c pe_int fun _ => .int _))))
 (ss_cons (s_app (i := 5) (pv 5) (pd_ix ix_both k_ix (PEf.d (pf_lst (as_cons (pd_op op_modN k_mod (pd_op op_divA k_div (pd_var 8 (pv 8)) (pd_c pe_int fun _ => .int _)) (pd_c pe_int fun _ => .int _)) (as_cons (pd_op op_modN k_mod (pd_op op_divA k_div (pd_var 8 (pv 8)) (pd_c pe_int fun _ => .int _)) (pd_c pe_int fun _ => .int _)) (as_cons (pd_op op_modN k_mod (pd_op op_divA k_div (pd_var 8 (pv 8)) (pd_c pe_int fun _ => .int _)) (pd_op op_powA k_pow (pd_c pe_int fun _ => .int _) (pd_c pe_int fun _ => .int _))) as_nil star_bin) star_bin) star_bin))) (pd_op op_modN k_mod (pd_var 8 (pv 8)) (pd_c pe_int fun _ => .int _)) (fun _ _ => rfl)))
 (ss_one (s_if (PWd.pt (w_or (tst (eqA W.u) k_eq (pd_var 3 (pv 3)) (pd_c pe_str fun _ => .str _) (nomark _)) (w_or1 (tst (eqA W.u) k_eq (pd_var 3 (pv 3)) (pd_c pe_str fun _ => .str _) (nomark _))))) (ss_cons (s_set (i := 8) sc_law_drawn.nd rfl (Or.inl rfl) (pd_op op_modN k_mod (pd_call W c_law_cell_at rfl (as_cons (pd_var 0 (pv 0)) (as_cons (pd_op op_addA k_add (pd_op op_addA k_add (pd_c pe_int fun _ => .int _) (pd_var 4 (pv 4))) (pd_var 7 (pv 7))) as_nil star_bin) star_nm)) (pd_op op_powA k_pow (pd_c pe_int fun _ => .int _) (pd_c pe_int fun _ => .int _))))
 (ss_one (s_app (i := 6) (pv 6) (pd_op op_addA k_add (pd_c pe_int fun _ => .int _) (pd_op op_modN k_mod (pd_op op_divA k_div (pd_var 8 (pv 8)) (pd_c pe_int fun _ => .int _)) (pd_ix ix_both k_ix (PEf.d (pf_lst (as_cons (pd_c pe_int fun _ => .int _) (as_cons (pd_op op_powA k_pow (pd_c pe_int fun _ => .int _) (pd_c pe_int fun _ => .int _)) as_nil star_bin) star_c))) (pd_op op_modN k_mod (pd_var 8 (pv 8)) (pd_c pe_int fun _ => .int _)) (fun _ _ => rfl))))))) ss_nil)))))
 (su_last (ps_ret (pe_tup (pa_cons (pv 3) (pa_cons (pv 6) (pa_cons (pv 5) pa_nil))))))))))))
theorem ok_law_caught (F : Fn K mg "_law_caught" s_law_caught ["cell", "whole_v"] f fd) (B : Bt mg) (KT : Kt K) (C : Ct K mg) (R : Rt K mg) (ET : Et K mg) (c_law_fraction : CanM P w K mg base k "_law_fraction" ["top", "bottom"] m_law_fraction) : CanM P w K mg base (k + 1) "_law_caught" ["cell", "whole_v"] m_law_caught :=
  fn_pure F sc_law_caught fun cdv A outer s H E G W WR => (ss_cons (s_set (i := 0) sc_law_caught.nd rfl (Or.inl rfl) (pd_op op_modN k_mod (pd_var 0 (pv 0)) (pd_op op_powA k_pow (pd_c pe_int fun _ => .int _) (pd_c pe_int fun _ => .int _))))
 (ss_cons (s_set (i := 2) sc_law_caught.nd rfl (Or.inl rfl) (pd_ix ix_both k_ix (PEf.d (pf_lst (as_cons (pd_c pe_int fun _ => .int _) (as_cons (pd_c pe_int fun _ => .int _) (as_cons (pd_op op_addA k_add (pd_c pe_int fun _ => .int _) (pd_op op_modN k_mod (pd_op op_divA k_div (pd_var 0 (pv 0)) (pd_c pe_int fun _ => .int _)) (pd_c pe_int fun _ => .int _))) (as_cons (pd_op op_addA k_add (pd_c pe_int fun _ => .int _) (pd_op op_modN k_mod (pd_op op_divA k_div (pd_var 0 (pv 0)) (pd_c pe_int fun _ => .int _)) (pd_op op_powA k_pow (pd_c pe_int fun _ => .int _) (pd_c pe_int fun _ => .int _)))) as_nil star_bin) star_bin) star_c) star_c))) (pd_op op_modN k_mod (pd_var 0 (pv 0)) (pd_c pe_int fun _ => .int _)) (fun _ _ => rfl)))
 (ss_one (s_ret (pd_call W c_law_fraction rfl (as_cons (pd_op op_modN k_mod (pd_op op_divA k_div (pd_var 0 (pv 0)) (pd_c pe_int fun _ => .int _)) (pd_op op_addA k_add (pd_op op_mulA k_mul (pd_var 1 (pv 1)) (pd_var 2 (pv 2))) (pd_c pe_int fun _ => .int _))) (as_cons (pd_var 2 (pv 2)) as_nil star_nm) star_bin))))))
theorem ok_law_is_fraction (F : Fn K mg "_law_is_fraction" s_law_is_fraction ["found"] f fd) (B : Bt mg) (KT : Kt K) (C : Ct K mg) (R : Rt K mg) (ET : Et K mg) (c_law_fraction : CanM P w K mg base k "_law_fraction" ["top", "bottom"] m_law_fraction) : CanM P w K mg base (k + 1) "_law_is_fraction" ["found"] m_law_is_fraction :=
  fn_pure F sc_law_is_fraction fun cdv A outer s H E G W WR => (ss_cons (s_if (PWd.pt (w_or (pt_n (pt_v (pd_isT KT.tuple rfl B.isinstance (pd_var 0 (pv 0)) (pe_bltn (v := .ty "tuple") rfl B.tuple boot_tuple rfl)))) (w_or1 (tst (neA W.u) k_ne (pd_callB call_len_seq kb_len rfl B.len PySem.boot_len (as_cons (pd_var 0 (pv 0)) as_nil star_nm)) (pd_c pe_int fun _ => .int _) (nomark _))))) (ss_one (s_ret (pd_c pe_bl fun _ => .bl _))) ss_nil)
 (ss_cons (s_for W.own W.calm (i_seq (pd_var 0 (pv 0))) (g_name (i := 1) sc_law_is_fraction.nd rfl (Or.inl rfl)) gne_name (ss_one (s_if (PWd.pt (w_or (pt_n (pt_v (pd_isT KT.int rfl B.isinstance (pd_var 1 (pv 1)) (pe_bltn (v := .ty "int") rfl B.int boot_int rfl)))) (w_or1 (pt_v (pd_isT KT.bool rfl B.isinstance (pd_var 1 (pv 1)) (pe_bltn (v := .ty "bool") rfl B.bool boot_bool rfl)))))) (ss_one (s_ret (pd_c pe_bl fun _ => .bl _))) ss_nil)))
 (ss_one (s_ret (pd_and (pd_cmp op_gt k_gt (pd_ix ix_both k_ix (pd_var 0 (pv 0)) (pd_c pe_int fun _ => .int _) (fun _ _ => rfl)) (pd_c pe_int fun _ => .int _) (nomark _)) (pd_one (pd_cmp (eqA W.u) k_eq (pd_call W c_law_fraction rfl (as_cons (pd_ix ix_both k_ix (pd_var 0 (pv 0)) (pd_c pe_int fun _ => .int _) (fun _ _ => rfl)) (as_cons (pd_ix ix_both k_ix (pd_var 0 (pv 0)) (pd_c pe_int fun _ => .int _) (fun _ _ => rfl)) as_nil star_sub) star_sub)) (pd_var 0 (pv 0)) (nomark _))))))))
theorem ok_law_added (F : Fn K mg "_law_added" s_law_added ["one", "two"] f fd) (B : Bt mg) (KT : Kt K) (C : Ct K mg) (R : Rt K mg) (ET : Et K mg) (c_law_fraction : CanM P w K mg base k "_law_fraction" ["top", "bottom"] m_law_fraction) : CanM P w K mg base (k + 1) "_law_added" ["one", "two"] m_law_added :=
  fn_pure F sc_law_added fun cdv A outer s H E G W WR => (ss_one (s_ret (pd_call W c_law_fraction rfl (as_cons (pd_op op_addA k_add (pd_op op_mulA k_mul (pd_ix ix_both k_ix (pd_var 0 (pv 0)) (pd_c pe_int fun _ => .int _) (fun _ _ => rfl)) (pd_ix ix_both k_ix (pd_var 1 (pv 1)) (pd_c pe_int fun _ => .int _) (fun _ _ => rfl))) (pd_op op_mulA k_mul (pd_ix ix_both k_ix (pd_var 1 (pv 1)) (pd_c pe_int fun _ => .int _) (fun _ _ => rfl)) (pd_ix ix_both k_ix (pd_var 0 (pv 0)) (pd_c pe_int fun _ => .int _) (fun _ _ => rfl)))) (as_cons (pd_op op_mulA k_mul (pd_ix ix_both k_ix (pd_var 0 (pv 0)) (pd_c pe_int fun _ => .int _) (fun _ _ => rfl)) (pd_ix ix_both k_ix (pd_var 1 (pv 1)) (pd_c pe_int fun _ => .int _) (fun _ _ => rfl))) as_nil star_bin) star_bin))))
theorem ok_plus (F : Fn K mg "plus" s_plus ["one", "two"] f fd) (B : Bt mg) (KT : Kt K) (C : Ct K mg) (R : Rt K mg) (ET : Et K mg) (c_made : CanM P w K mg base k "made" ["top", "bottom"] m_made) : CanM P w K mg base (k + 1) "plus" ["one", "two"] m_plus :=
  fn_pure F sc_plus fun cdv A outer s H E G W WR => (ss_one (s_ret (pd_call W c_made rfl (as_cons (pd_op op_addA k_add (pd_op op_mulA k_mul (pd_ix ix_both k_ix (pd_var 0 (pv 0)) (pd_c pe_int fun _ => .int _) (fun _ _ => rfl)) (pd_ix ix_both k_ix (pd_var 1 (pv 1)) (pd_c pe_int fun _ => .int _) (fun _ _ => rfl))) (pd_op op_mulA k_mul (pd_ix ix_both k_ix (pd_var 1 (pv 1)) (pd_c pe_int fun _ => .int _) (fun _ _ => rfl)) (pd_ix ix_both k_ix (pd_var 0 (pv 0)) (pd_c pe_int fun _ => .int _) (fun _ _ => rfl)))) (as_cons (pd_op op_mulA k_mul (pd_ix ix_both k_ix (pd_var 0 (pv 0)) (pd_c pe_int fun _ => .int _) (fun _ _ => rfl)) (pd_ix ix_both k_ix (pd_var 1 (pv 1)) (pd_c pe_int fun _ => .int _) (fun _ _ => rfl))) as_nil star_bin) star_bin))))
theorem ok_minus (F : Fn K mg "minus" s_minus ["one", "two"] f fd) (B : Bt mg) (KT : Kt K) (C : Ct K mg) (R : Rt K mg) (ET : Et K mg) (c_made : CanM P w K mg base k "made" ["top", "bottom"] m_made) : CanM P w K mg base (k + 1) "minus" ["one", "two"] m_minus :=
  fn_pure F sc_minus fun cdv A outer s H E G W WR => (ss_one (s_ret (pd_call W c_made rfl (as_cons (pd_op op_sub k_sub (pd_op op_mulA k_mul (pd_ix ix_both k_ix (pd_var 0 (pv 0)) (pd_c pe_int fun _ => .int _) (fun _ _ => rfl)) (pd_ix ix_both k_ix (pd_var 1 (pv 1)) (pd_c pe_int fun _ => .int _) (fun _ _ => rfl))) (pd_op op_mulA k_mul (pd_ix ix_both k_ix (pd_var 1 (pv 1)) (pd_c pe_int fun _ => .int _) (fun _ _ => rfl)) (pd_ix ix_both k_ix (pd_var 0 (pv 0)) (pd_c pe_int fun _ => .int _) (fun _ _ => rfl)))) (as_cons (pd_op op_mulA k_mul (pd_ix ix_both k_ix (pd_var 0 (pv 0)) (pd_c pe_int fun _ => .int _) (fun _ _ => rfl)) (pd_ix ix_both k_ix (pd_var 1 (pv 1)) (pd_c pe_int fun _ => .int _) (fun _ _ => rfl))) as_nil star_bin) star_bin))))
theorem ok_times (F : Fn K mg "times" s_times ["one", "two"] f fd) (B : Bt mg) (KT : Kt K) (C : Ct K mg) (R : Rt K mg) (ET : Et K mg) (c_made : CanM P w K mg base k "made" ["top", "bottom"] m_made) : CanM P w K mg base (k + 1) "times" ["one", "two"] m_times :=
  fn_pure F sc_times fun cdv A outer s H E G W WR => (ss_one (s_ret (pd_call W c_made rfl (as_cons (pd_op op_mulA k_mul (pd_ix ix_both k_ix (pd_var 0 (pv 0)) (pd_c pe_int fun _ => .int _) (fun _ _ => rfl)) (pd_ix ix_both k_ix (pd_var 1 (pv 1)) (pd_c pe_int fun _ => .int _) (fun _ _ => rfl))) (as_cons (pd_op op_mulA k_mul (pd_ix ix_both k_ix (pd_var 0 (pv 0)) (pd_c pe_int fun _ => .int _) (fun _ _ => rfl)) (pd_ix ix_both k_ix (pd_var 1 (pv 1)) (pd_c pe_int fun _ => .int _) (fun _ _ => rfl))) as_nil star_bin) star_bin))))
theorem ok_over (F : Fn K mg "over" s_over ["one", "two"] f fd) (B : Bt mg) (KT : Kt K) (C : Ct K mg) (R : Rt K mg) (ET : Et K mg) (c_made : CanM P w K mg base k "made" ["top", "bottom"] m_made) : CanM P w K mg base (k + 1) "over" ["one", "two"] m_over :=
  fn_pure F sc_over fun cdv A outer s H E G W WR => (ss_one (s_ret (pd_call W c_made rfl (as_cons (pd_op op_mulA k_mul (pd_ix ix_both k_ix (pd_var 0 (pv 0)) (pd_c pe_int fun _ => .int _) (fun _ _ => rfl)) (pd_ix ix_both k_ix (pd_var 1 (pv 1)) (pd_c pe_int fun _ => .int _) (fun _ _ => rfl))) (as_cons (pd_op op_mulA k_mul (pd_ix ix_both k_ix (pd_var 0 (pv 0)) (pd_c pe_int fun _ => .int _) (fun _ _ => rfl)) (pd_ix ix_both k_ix (pd_var 1 (pv 1)) (pd_c pe_int fun _ => .int _) (fun _ _ => rfl))) as_nil star_bin) star_bin))))
theorem ok_refuse_outside (F : Fn K mg "refuse_outside" s_refuse_outside ["amount", "most"] f fd) (B : Bt mg) (KT : Kt K) (C : Ct K mg) (R : Rt K mg) (ET : Et K mg) (c_is_outside : CanM P w K mg base k "is_outside" ["amount", "most"] m_is_outside) : CanM P w K mg base (k + 1) "refuse_outside" ["amount", "most"] m_refuse_outside :=
  fn_pure F sc_refuse_outside fun cdv A outer s H E G W WR => (ss_one (s_if (pt_v (pd_call W c_is_outside rfl (as_cons (pd_var 0 (pv 0)) (as_cons (pd_var 1 (pv 1)) as_nil star_nm) star_nm))) (ss_one (s_raise W WR R.Outside rfl (as_cons (pd_c pe_str fun _ => .str _) as_nil star_c))) ss_nil))
theorem ok_levels_of (F : Fn K mg "levels_of" s_levels_of ["weights", "claims"] f fd) (B : Bt mg) (KT : Kt K) (C : Ct K mg) (R : Rt K mg) (ET : Et K mg) (c_made : CanM P w K mg base k "made" ["top", "bottom"] m_made) : CanM P w K mg base (k + 1) "levels_of" ["weights", "claims"] m_levels_of :=
  fn_pure F sc_levels_of fun cdv A outer s H E G W WR => (ss_one (s_retF (pf_comp2B (N := ["weights", "claims"]) W (by decide +kernel) rfl (sc := defScope s_levels_of) rfl rfl (by decide +kernel) (i_zip rfl B.zip (as_cons (pd_var 1 (pv 1)) (as_cons (pd_var 0 (pv 0)) as_nil star_nm) star_nm)) (fun C2 s2 H2 fp2 G W => (pd_call W c_made rfl (as_cons (pd_var 2 (pv 2)) (as_cons (pd_var 3 (pv 3)) as_nil star_nm) star_nm))))))
theorem ok_law_dealing (F : Fn K mg "_law_dealing" s_law_dealing ["found", "claims", "catch"] f fd) (B : Bt mg) (KT : Kt K) (C : Ct K mg) (R : Rt K mg) (ET : Et K mg) (c_law_sum_is : CanM P w K mg base k "_law_sum_is" ["gets", "catch"] m_law_sum_is) (c_law_is_fraction : CanM P w K mg base k "_law_is_fraction" ["found"] m_law_is_fraction) : CanM P w K mg base (k + 1) "_law_dealing" ["found", "claims", "catch"] m_law_dealing :=
  fn_pure F sc_law_dealing fun cdv A outer s H E G W WR => (ss_cons (s_if (PWd.pt (w_or (pt_n (pt_v (pd_isT KT.list rfl B.isinstance (pd_var 0 (pv 0)) (pe_bltn (v := .ty "list") rfl B.list boot_list rfl)))) (w_or1 (tst (neA W.u) k_ne (pd_callB call_len_seq kb_len rfl B.len PySem.boot_len (as_cons (pd_var 0 (pv 0)) as_nil star_nm)) (pd_callB call_len_seq kb_len rfl B.len PySem.boot_len (as_cons (pd_var 1 (pv 1)) as_nil star_nm)) (nomark _))))) (ss_one (s_ret (pd_c pe_bl fun _ => .bl _))) ss_nil)
 (ss_cons (s_for W.own W.calm (i_zip rfl B.zip (as_cons (pd_var 0 (pv 0)) (as_cons (pd_var 1 (pv 1)) as_nil star_nm) star_nm)) (g_tup W.calm (gs_cons (g_name (i := 3) sc_law_dealing.nd rfl (Or.inl rfl)) (gs_cons (g_name (i := 4) sc_law_dealing.nd rfl (Or.inl rfl)) gs_nil)) (gl_cons (gl_cons gl_nil))) (gne_tup (gne_cons gne_name (gne_cons gne_name gne_nil))) (ss_one (s_if (PWd.pt (w_or (pt_n (pt_v (pd_call W c_law_is_fraction rfl (as_cons (pd_var 3 (pv 3)) as_nil star_nm)))) (w_or (tst op_lt k_lt (pd_ix ix_both k_ix (pd_var 3 (pv 3)) (pd_c pe_int fun _ => .int _) (fun _ _ => rfl)) (pd_c pe_int fun _ => .int _) (nomark _)) (w_or1 (tst op_gt k_gt (pd_ix ix_both k_ix (pd_var 3 (pv 3)) (pd_c pe_int fun _ => .int _) (fun _ _ => rfl)) (pd_op op_mulA k_mul (pd_var 4 (pv 4)) (pd_ix ix_both k_ix (pd_var 3 (pv 3)) (pd_c pe_int fun _ => .int _) (fun _ _ => rfl))) (nomark _)))))) (ss_one (s_ret (pd_c pe_bl fun _ => .bl _))) ss_nil)))
 (ss_one (s_ret (pd_call W c_law_sum_is rfl (as_cons (pd_var 0 (pv 0)) (as_cons (pd_var 2 (pv 2)) as_nil star_nm) star_nm))))))
theorem ok_law_moved (F : Fn K mg "_law_moved" s_law_moved ["claims", "gets", "cell"] f fd) (B : Bt mg) (KT : Kt K) (C : Ct K mg) (R : Rt K mg) (ET : Et K mg) (c_law_added : CanM P w K mg base k "_law_added" ["one", "two"] m_law_added) (c_law_fraction : CanM P w K mg base k "_law_fraction" ["top", "bottom"] m_law_fraction) : CanM P w K mg base (k + 1) "_law_moved" ["claims", "gets", "cell"] m_law_moved :=
  fn_pure F sc_law_moved fun cdv A outer s H E G W WR => (ss_cons (s_set (i := 2) sc_law_moved.nd rfl (Or.inl rfl) (pd_op op_modN k_mod (pd_var 2 (pv 2)) (pd_op op_powA k_pow (pd_c pe_int fun _ => .int _) (pd_c pe_int fun _ => .int _))))
 (ss_cons (s_set (i := 3) sc_law_moved.nd rfl (Or.inl rfl) (pd_op op_modN k_mod (pd_var 2 (pv 2)) (pd_callB call_len_seq kb_len rfl B.len PySem.boot_len (as_cons (pd_var 0 (pv 0)) as_nil star_nm))))
 (ss_cons (s_set (i := 4) sc_law_moved.nd rfl (Or.inl rfl) (pd_op op_modN k_mod (pd_op op_addA k_add (pd_op op_addA k_add (pd_var 3 (pv 3)) (pd_c pe_int fun _ => .int _)) (pd_op op_modN k_mod (pd_op op_divA k_div (pd_var 2 (pv 2)) (pd_c pe_int fun _ => .int _)) (pd_op op_sub k_sub (pd_callB call_len_seq kb_len rfl B.len PySem.boot_len (as_cons (pd_var 0 (pv 0)) as_nil star_nm)) (pd_c pe_int fun _ => .int _)))) (pd_callB call_len_seq kb_len rfl B.len PySem.boot_len (as_cons (pd_var 0 (pv 0)) as_nil star_nm))))
 (ss_cons (s_set (i := 5) sc_law_moved.nd rfl (Or.inl rfl) (pd_ix ix_both k_ix (PEf.d (pf_lst (as_cons (pd_tup (as_cons (pd_c pe_int fun _ => .int _) (as_cons (pd_c pe_int fun _ => .int _) as_nil star_c) star_c)) (as_cons (pd_tup (as_cons (pd_c pe_int fun _ => .int _) (as_cons (pd_c pe_int fun _ => .int _) as_nil star_c) star_c)) (as_cons (pd_call W c_law_fraction rfl (as_cons (pd_op op_addA k_add (pd_c pe_int fun _ => .int _) (pd_op op_modN k_mod (pd_op op_divA k_div (pd_var 2 (pv 2)) (pd_c pe_int fun _ => .int _)) (pd_c pe_int fun _ => .int _))) (as_cons (pd_c pe_int fun _ => .int _) as_nil star_c) star_bin)) as_nil star_call) star_tup) star_tup))) (pd_op op_modN k_mod (pd_op op_divA k_div (pd_var 2 (pv 2)) (pd_c pe_int fun _ => .int _)) (pd_c pe_int fun _ => .int _)) (fun _ _ => rfl)))
 (ss_cons (s_set (i := 6) sc_law_moved.nd rfl (Or.inl rfl) (pd_call W c_law_added rfl (as_cons (pd_tup (as_cons (pd_ix ix_both k_ix (pd_var 0 (pv 0)) (pd_var 4 (pv 4)) (fun _ _ => rfl)) (as_cons (pd_c pe_int fun _ => .int _) as_nil star_c) star_sub)) (as_cons (pd_tup (as_cons (pd_op op_sub k_sub (pd_c pe_int fun _ => .int _) (pd_ix ix_both k_ix (pd_ix ix_both k_ix (pd_var 1 (pv 1)) (pd_var 4 (pv 4)) (fun _ _ => rfl)) (pd_c pe_int fun _ => .int _) (fun _ _ => rfl))) (as_cons (pd_ix ix_both k_ix (pd_ix ix_both k_ix (pd_var 1 (pv 1)) (pd_var 4 (pv 4)) (fun _ _ => rfl)) (pd_c pe_int fun _ => .int _) (fun _ _ => rfl)) as_nil star_sub) star_bin)) as_nil star_tup) star_tup)))
 (ss_cons (s_set (i := 7) sc_law_moved.nd rfl (Or.inl rfl) (pd_ix ix_both k_ix (pd_var 1 (pv 1)) (pd_var 3 (pv 3)) (fun _ _ => rfl)))
 (ss_cons (s_if (tst op_lt k_lt (pd_op op_mulA k_mul (pd_ix ix_both k_ix (pd_var 6 (pv 6)) (pd_c pe_int fun _ => .int _) (fun _ _ => rfl)) (pd_ix ix_both k_ix (pd_var 7 (pv 7)) (pd_c pe_int fun _ => .int _) (fun _ _ => rfl))) (pd_op op_mulA k_mul (pd_ix ix_both k_ix (pd_var 7 (pv 7)) (pd_c pe_int fun _ => .int _) (fun _ _ => rfl)) (pd_ix ix_both k_ix (pd_var 6 (pv 6)) (pd_c pe_int fun _ => .int _) (fun _ _ => rfl))) (nomark _)) (ss_one (s_set (i := 7) sc_law_moved.nd rfl (Or.inl rfl) (pd_var 6 (pv 6)))) ss_nil)
 (ss_cons (s_set (i := 7) sc_law_moved.nd rfl (Or.inl rfl) (pd_call W c_law_fraction rfl (as_cons (pd_op op_mulA k_mul (pd_ix ix_both k_ix (pd_var 7 (pv 7)) (pd_c pe_int fun _ => .int _) (fun _ _ => rfl)) (pd_ix ix_both k_ix (pd_var 5 (pv 5)) (pd_c pe_int fun _ => .int _) (fun _ _ => rfl))) (as_cons (pd_op op_mulA k_mul (pd_ix ix_both k_ix (pd_var 7 (pv 7)) (pd_c pe_int fun _ => .int _) (fun _ _ => rfl)) (pd_ix ix_both k_ix (pd_var 5 (pv 5)) (pd_c pe_int fun _ => .int _) (fun _ _ => rfl))) as_nil star_bin) star_bin)))
 (ss_cons (s_own (i := 8) sc_law_moved.nd rfl (Or.inl rfl) (pf_list rfl B.list boot_list (as_cons (pd_var 1 (pv 1)) as_nil star_nm)))
 (ss_cons (s_put (i := 8) (pv 8) (pd_var 3 (pv 3)) (pd_call W c_law_added rfl (as_cons (pd_ix ix_both k_ix (pd_var 1 (pv 1)) (pd_var 3 (pv 3)) (fun _ _ => rfl)) (as_cons (pd_tup (as_cons (pd_op op_sub k_sub (pd_c pe_int fun _ => .int _) (pd_ix ix_both k_ix (pd_var 7 (pv 7)) (pd_c pe_int fun _ => .int _) (fun _ _ => rfl))) (as_cons (pd_ix ix_both k_ix (pd_var 7 (pv 7)) (pd_c pe_int fun _ => .int _) (fun _ _ => rfl)) as_nil star_sub) star_bin)) as_nil star_tup) star_sub)))
 (ss_cons (s_put (i := 8) (pv 8) (pd_var 4 (pv 4)) (pd_call W c_law_added rfl (as_cons (pd_ix ix_both k_ix (pd_var 1 (pv 1)) (pd_var 4 (pv 4)) (fun _ _ => rfl)) (as_cons (pd_var 7 (pv 7)) as_nil star_nm) star_sub)))
 (ss_one (s_retOwn 8 (pv 8))))))))))))))
theorem ok_row_dealt (F : Fn K mg "row_dealt" s_row_dealt ["claims", "catch"] f fd) (B : Bt mg) (KT : Kt K) (C : Ct K mg) (R : Rt K mg) (ET : Et K mg) (c_lesser : CanM P w K mg base k "lesser" ["one", "two"] m_lesser) (c_minus : CanM P w K mg base k "minus" ["one", "two"] m_minus) (c_whole : CanM P w K mg base k "whole" ["number"] m_whole) : CanM P w K mg base (k + 1) "row_dealt" ["claims", "catch"] m_row_dealt :=
  fn_pure F sc_row_dealt fun cdv A outer s H E G W WR => (ss_cons (s_set (i := 2) sc_row_dealt.nd rfl (Or.inl rfl) (pd_var 1 (pv 1)))
 (ss_cons (s_own (i := 3) sc_row_dealt.nd rfl (Or.inl rfl) (pf_lst as_nil))
 (ss_cons (s_for W.own W.calm (i_seq (pd_var 0 (pv 0))) (g_name (i := 4) sc_row_dealt.nd rfl (Or.inl rfl)) gne_name (ss_cons (s_set (i := 5) sc_row_dealt.nd rfl (Or.inl rfl) (pd_call W c_lesser rfl (as_cons (pd_var 2 (pv 2)) (as_cons (pd_call W c_whole rfl (as_cons (pd_var 4 (pv 4)) as_nil star_nm)) as_nil star_call) star_nm)))
 (ss_cons (s_app (i := 3) (pv 3) (pd_var 5 (pv 5)))
 (ss_one (s_set (i := 2) sc_row_dealt.nd rfl (Or.inl rfl) (pd_call W c_minus rfl (as_cons (pd_var 2 (pv 2)) (as_cons (pd_var 5 (pv 5)) as_nil star_nm) star_nm)))))))
 (ss_one (s_retOwn 3 (pv 3))))))
theorem ok_even_dealt (F : Fn K mg "even_dealt" s_even_dealt ["weights", "claims", "catch"] f fd) (B : Bt mg) (KT : Kt K) (C : Ct K mg) (R : Rt K mg) (ET : Et K mg) (c_ranked : CanR P w K mg base k k_ranked) (c_levels_of : CanM P w K mg base k "levels_of" ["weights", "claims"] m_levels_of) (c_over : CanM P w K mg base k "over" ["one", "two"] m_over) (c_lesser : CanM P w K mg base k "lesser" ["one", "two"] m_lesser) (c_minus : CanM P w K mg base k "minus" ["one", "two"] m_minus) (c_times : CanM P w K mg base k "times" ["one", "two"] m_times) (c_whole : CanM P w K mg base k "whole" ["number"] m_whole) : CanM P w K mg base (k + 1) "even_dealt" ["weights", "claims", "catch"] m_even_dealt :=
  fn_pure F sc_even_dealt fun cdv A outer s H E G W WR => (ss_cons (s_set (i := 3) sc_even_dealt.nd rfl (Or.inl rfl) (pd_var 2 (pv 2)))
 (ss_cons (s_set (i := 4) sc_even_dealt.nd rfl (Or.inl rfl) (pd_callB (call_sum W.calm) kb_sum rfl B.sum boot_sum2 (as_cons (pd_var 0 (pv 0)) as_nil star_nm)))
 (ss_cons (s_own (i := 5) sc_even_dealt.nd rfl (Or.inl rfl) (pf_rep (pf_lst (as_cons (pd_glob rfl C.NOUGHT) as_nil star_nm)) (pd_callB call_len_seq kb_len rfl B.len PySem.boot_len (as_cons (pd_var 1 (pv 1)) as_nil star_nm))))
 (ss_rank W c_ranked kr_ne kr_one rfl (as_cons (PEf.d (pf_call W c_levels_of rfl (as_cons (pd_var 0 (pv 0)) (as_cons (pd_var 1 (pv 1)) as_nil star_nm) star_nm))) as_nil star_call) (g_name (i := 6) sc_even_dealt.nd rfl (Or.inl rfl)) gne_name (ss_cons (s_set (i := 7) sc_even_dealt.nd rfl (Or.inl rfl) (pd_call W c_over rfl (as_cons (pd_call W c_times rfl (as_cons (pd_var 3 (pv 3)) (as_cons (pd_call W c_whole rfl (as_cons (pd_ix ix_both k_ix (pd_var 0 (pv 0)) (pd_var 6 (pv 6)) (fun _ _ => rfl)) as_nil star_sub)) as_nil star_call) star_nm)) (as_cons (pd_call W c_whole rfl (as_cons (pd_var 4 (pv 4)) as_nil star_nm)) as_nil star_call) star_call)))
 (ss_cons (s_put (i := 5) (pv 5) (pd_var 6 (pv 6)) (pd_call W c_lesser rfl (as_cons (pd_var 7 (pv 7)) (as_cons (pd_call W c_whole rfl (as_cons (pd_ix ix_both k_ix (pd_var 1 (pv 1)) (pd_var 6 (pv 6)) (fun _ _ => rfl)) as_nil star_sub)) as_nil star_call) star_nm)))
 (ss_cons (s_set (i := 3) sc_even_dealt.nd rfl (Or.inl rfl) (PEd.frz (pd_call W c_minus rfl (as_cons (pd_var 3 (pv 3)) (as_cons (pd_ix ix_both k_ix (pd_var 5 (pv 5)) (pd_var 6 (pv 6)) (fun _ _ => rfl)) as_nil star_sub) star_nm))))
 (ss_one (s_aug (i := 4) sc_even_dealt.nd rfl (Or.inl rfl) (pd_ix ix_both k_ix (pd_var 0 (pv 0)) (pd_var 6 (pv 6)) (fun _ _ => rfl)) ip_sub aug_sub aug_subE))))) (ss_one (s_retOwn 5 (pv 5)))))))
theorem ok_part_dealt (F : Fn K mg "part_dealt" s_part_dealt ["claims", "catch"] f fd) (B : Bt mg) (KT : Kt K) (C : Ct K mg) (R : Rt K mg) (ET : Et K mg) (c_over : CanM P w K mg base k "over" ["one", "two"] m_over) (c_whole : CanM P w K mg base k "whole" ["number"] m_whole) (c_times : CanM P w K mg base k "times" ["one", "two"] m_times) : CanM P w K mg base (k + 1) "part_dealt" ["claims", "catch"] m_part_dealt :=
  fn_pure F sc_part_dealt fun cdv A outer s H E G W WR => (ss_cons (s_set (i := 2) sc_part_dealt.nd rfl (Or.inl rfl) (pd_callB (call_sum W.calm) kb_sum rfl B.sum boot_sum2 (as_cons (pd_var 0 (pv 0)) as_nil star_nm)))
 (ss_cons (s_if (tst (eqA W.u) k_eq (pd_var 2 (pv 2)) (pd_c pe_int fun _ => .int _) (nomark _)) (ss_one (s_retF (pf_rep (pf_lst (as_cons (pd_glob rfl C.NOUGHT) as_nil star_nm)) (pd_callB call_len_seq kb_len rfl B.len PySem.boot_len (as_cons (pd_var 0 (pv 0)) as_nil star_nm))))) ss_nil)
 (ss_cons (s_set (i := 3) sc_part_dealt.nd rfl (Or.inr rfl) (pd_call W c_over rfl (as_cons (pd_var 1 (pv 1)) (as_cons (pd_call W c_whole rfl (as_cons (pd_var 2 (pv 2)) as_nil star_nm)) as_nil star_call) star_nm)))
 (ss_one (s_retF (pf_compB W sc_part_dealt.nd rfl (sc := defScope s_part_dealt) rfl rfl (by decide +kernel) (i_seq (pd_var 0 (pv 0))) (fun C2 s2 H2 fp2 G W => ⟨ts_nil, (pd_call W c_times rfl (as_cons (pd_var 3 (pv 3)) (as_cons (pd_call W c_whole rfl (as_cons (pd_var 4 (pv 4)) as_nil star_nm)) as_nil star_call) star_nm))⟩)))))))
theorem ok_half_dealt (F : Fn K mg "half_dealt" s_half_dealt ["claims", "catch"] f fd) (B : Bt mg) (KT : Kt K) (C : Ct K mg) (R : Rt K mg) (ET : Et K mg) (c_times : CanM P w K mg base k "times" ["one", "two"] m_times) (c_even_dealt : CanM P w K mg base k "even_dealt" ["weights", "claims", "catch"] m_even_dealt) (c_plus : CanM P w K mg base k "plus" ["one", "two"] m_plus) : CanM P w K mg base (k + 1) "half_dealt" ["claims", "catch"] m_half_dealt :=
  fn_pure F sc_half_dealt fun cdv A outer s H E G W WR => (ss_cons (s_set (i := 2) sc_half_dealt.nd rfl (Or.inl rfl) (PEf.d (pf_rep (pf_lst (as_cons (pd_c pe_int fun _ => .int _) as_nil star_c)) (pd_callB call_len_seq kb_len rfl B.len PySem.boot_len (as_cons (pd_var 0 (pv 0)) as_nil star_nm)))))
 (ss_one (s_retF (pf_compB W sc_half_dealt.nd rfl (sc := defScope s_half_dealt) rfl rfl (by decide +kernel) (i_seq (PEf.d (pf_call W c_even_dealt rfl (as_cons (pd_var 2 (pv 2)) (as_cons (pd_var 0 (pv 0)) (as_cons (pd_call W c_plus rfl (as_cons (pd_var 1 (pv 1)) (as_cons (pd_var 1 (pv 1)) as_nil star_nm) star_nm)) as_nil star_call) star_nm) star_nm)))) (fun C2 s2 H2 fp2 G W => ⟨ts_nil, (pd_call W c_times rfl (as_cons (pd_var 3 (pv 3)) (as_cons (pd_glob rfl C.HALF) as_nil star_nm) star_nm))⟩)))))
theorem st_rightly_dealt {r : Mir} (F : Fn K mg "rightly_dealt" s_rightly_dealt ["way", "weights", "claims", "catch"] f fd) (B : Bt mg) (KT : Kt K) (C : Ct K mg) (R : Rt K mg) (ET : Et K mg) (c_whole : CanM P w K mg base k "whole" ["number"] m_whole) (c_row_dealt : CanM P w K mg base k "row_dealt" ["claims", "catch"] m_row_dealt) (c_even_dealt : CanM P w K mg base k "even_dealt" ["weights", "claims", "catch"] m_even_dealt) (c_part_dealt : CanM P w K mg base k "part_dealt" ["claims", "catch"] m_part_dealt) (c_half_dealt : CanM P w K mg base k "half_dealt" ["claims", "catch"] m_half_dealt) (c_minus : CanM P w K mg base k "minus" ["one", "two"] m_minus) (c_less : CanM P w K mg base k "less" ["one", "two"] m_less) (c_plus : CanM P w K mg base k "plus" ["one", "two"] m_plus) (c_rightly_dealt : CanM P w K mg base k "rightly_dealt" ["way", "weights", "claims", "catch"] r) : CanM P w K mg base (k + 1) "rightly_dealt" ["way", "weights", "claims", "catch"] (g_rightly_dealt r) :=
  fn_pure F sc_rightly_dealt fun cdv A outer s H E G W WR => (ss_cons (s_set (i := 4) sc_rightly_dealt.nd rfl (Or.inl rfl) (pd_call W c_whole rfl (as_cons (pd_callB (call_sum W.calm) kb_sum rfl B.sum boot_sum2 (as_cons (pd_var 2 (pv 2)) as_nil star_nm)) as_nil star_call)))
 (ss_cons (s_if (tst (eqA W.u) k_eq (pd_var 0 (pv 0)) (pd_c pe_str fun _ => .str _) (nomark _)) (ss_one (s_retF (pf_call W c_row_dealt rfl (as_cons (pd_var 2 (pv 2)) (as_cons (pd_var 3 (pv 3)) as_nil star_nm) star_nm)))) ss_nil)
 (ss_cons (s_if (tst (eqA W.u) k_eq (pd_var 0 (pv 0)) (pd_c pe_str fun _ => .str _) (nomark _)) (ss_one (s_retF (pf_call W c_even_dealt rfl (as_cons (pd_var 1 (pv 1)) (as_cons (pd_var 2 (pv 2)) (as_cons (pd_var 3 (pv 3)) as_nil star_nm) star_nm) star_nm)))) ss_nil)
 (ss_cons (s_if (tst (eqA W.u) k_eq (pd_var 0 (pv 0)) (pd_c pe_str fun _ => .str _) (nomark _)) (ss_one (s_retF (pf_call W c_part_dealt rfl (as_cons (pd_var 2 (pv 2)) (as_cons (pd_var 3 (pv 3)) as_nil star_nm) star_nm)))) ss_nil)
 (ss_cons (s_if (PWd.pt (w_and (tst (eqA W.u) k_eq (pd_var 0 (pv 0)) (pd_c pe_str fun _ => .str _) (nomark _)) (w_and1 (pt_n (pt_v (pd_call W c_less rfl (as_cons (pd_var 4 (pv 4)) (as_cons (pd_call W c_plus rfl (as_cons (pd_var 3 (pv 3)) (as_cons (pd_var 3 (pv 3)) as_nil star_nm) star_nm)) as_nil star_call) star_nm))))))) (ss_one (s_retF (pf_call W c_half_dealt rfl (as_cons (pd_var 2 (pv 2)) (as_cons (pd_var 3 (pv 3)) as_nil star_nm) star_nm)))) ss_nil)
 (ss_cons (s_set (i := 5) sc_rightly_dealt.nd rfl (Or.inl rfl) (PEf.d (pf_call W c_rightly_dealt rfl (as_cons (pd_ixT C.CONTRARY.choose_spec rfl (pd_var 0 (pv 0)) (fun _ _ => rfl)) (as_cons (pd_var 1 (pv 1)) (as_cons (pd_var 2 (pv 2)) (as_cons (pd_call W c_minus rfl (as_cons (pd_var 4 (pv 4)) (as_cons (pd_var 3 (pv 3)) as_nil star_nm) star_nm)) as_nil star_call) star_nm) star_nm) star_sub))))
 (ss_one (s_retF (pf_comp2B (N := ["way", "weights", "claims", "catch", "most", "lacking"]) W (by decide +kernel) rfl (sc := defScope s_rightly_dealt) rfl rfl (by decide +kernel) (i_zip rfl B.zip (as_cons (pd_var 2 (pv 2)) (as_cons (pd_var 5 (pv 5)) as_nil star_nm) star_nm)) (fun C2 s2 H2 fp2 G W => (pd_call W c_minus rfl (as_cons (pd_call W c_whole rfl (as_cons (pd_var 6 (pv 6)) as_nil star_nm)) (as_cons (pd_var 7 (pv 7)) as_nil star_nm) star_call))))))))))))
theorem ok_rightly_dealt (F : Fn K mg "rightly_dealt" s_rightly_dealt ["way", "weights", "claims", "catch"] f fd) (B : Bt mg) (KT : Kt K) (C : Ct K mg) (R : Rt K mg) (ET : Et K mg) (c_whole : CanM P w K mg base k "whole" ["number"] m_whole) (c_row_dealt : CanM P w K mg base k "row_dealt" ["claims", "catch"] m_row_dealt) (c_even_dealt : CanM P w K mg base k "even_dealt" ["weights", "claims", "catch"] m_even_dealt) (c_part_dealt : CanM P w K mg base k "part_dealt" ["claims", "catch"] m_part_dealt) (c_half_dealt : CanM P w K mg base k "half_dealt" ["claims", "catch"] m_half_dealt) (c_minus : CanM P w K mg base k "minus" ["one", "two"] m_minus) (c_less : CanM P w K mg base k "less" ["one", "two"] m_less) (c_plus : CanM P w K mg base k "plus" ["one", "two"] m_plus) : ∀ n : Nat, CanM P w K mg base (k + 1 + n) "rightly_dealt" ["way", "weights", "claims", "catch"] (m_rightly_dealt n)
  | 0 => fn_pure F sc_rightly_dealt fun cdv A outer s H E G W WR => ss_no
  | n + 1 => st_rightly_dealt (k := k + 1 + n) F B KT C R ET (c_whole := c_whole.mono (by omega)) (c_row_dealt := c_row_dealt.mono (by omega)) (c_even_dealt := c_even_dealt.mono (by omega)) (c_part_dealt := c_part_dealt.mono (by omega)) (c_half_dealt := c_half_dealt.mono (by omega)) (c_minus := c_minus.mono (by omega)) (c_less := c_less.mono (by omega)) (c_plus := c_plus.mono (by omega)) (c_rightly_dealt := ok_rightly_dealt F B KT C R ET (c_whole := c_whole) (c_row_dealt := c_row_dealt) (c_even_dealt := c_even_dealt) (c_part_dealt := c_part_dealt) (c_half_dealt := c_half_dealt) (c_minus := c_minus) (c_less := c_less) (c_plus := c_plus) n)
theorem ok_dealt (F : Fn K mg "dealt" s_dealt ["way", "weights", "claims", "catch"] f fd) (B : Bt mg) (KT : Kt K) (C : Ct K mg) (R : Rt K mg) (ET : Et K mg) (c_looked : CanM P w K mg base k "looked" ["way", "weights", "claims"] m_looked) (c_refuse_outside : CanM P w K mg base k "refuse_outside" ["amount", "most"] m_refuse_outside) (c_rightly_dealt : CanM P w K mg base k "rightly_dealt" ["way", "weights", "claims", "catch"] (m_rightly_dealt 2)) (c_whole : CanM P w K mg base k "whole" ["number"] m_whole) : CanM P w K mg base (k + 1) "dealt" ["way", "weights", "claims", "catch"] m_dealt :=
  fn_pure F sc_dealt fun cdv A outer s H E G W WR => (ss_cons (s_expr (pd_call W c_looked rfl (as_cons (pd_var 0 (pv 0)) (as_cons (pd_var 1 (pv 1)) (as_cons (pd_var 2 (pv 2)) as_nil star_nm) star_nm) star_nm)))
 (ss_cons (s_expr (pd_call W c_refuse_outside rfl (as_cons (pd_var 3 (pv 3)) (as_cons (pd_call W c_whole rfl (as_cons (pd_callB (call_sum W.calm) kb_sum rfl B.sum boot_sum2 (as_cons (pd_var 2 (pv 2)) as_nil star_nm)) as_nil star_call)) as_nil star_call) star_nm)))
 (ss_one (s_retF (pf_call W c_rightly_dealt rfl (as_cons (pd_var 0 (pv 0)) (as_cons (pd_var 1 (pv 1)) (as_cons (pd_var 2 (pv 2)) (as_cons (pd_var 3 (pv 3)) as_nil star_nm) star_nm) star_nm) star_nm))))))
theorem ok_law_of_two (F : Fn K mg "_law_of_two" s_law_of_two ["way", "weights", "claims", "gets", "one", "other"] f fd) (B : Bt mg) (KT : Kt K) (C : Ct K mg) (R : Rt K mg) (ET : Et K mg) (c_law_added : CanM P w K mg base k "_law_added" ["one", "two"] m_law_added) (c_dealt : CanM P w K mg base k "dealt" ["way", "weights", "claims", "catch"] m_dealt) : CanM P w K mg base (k + 1) "_law_of_two" ["way", "weights", "claims", "gets", "one", "other"] m_law_of_two :=
  fn_pure F sc_law_of_two fun cdv A outer s H E G W WR => (ss_cons (s_set (i := 6) sc_law_of_two.nd rfl (Or.inl rfl) (pd_if (tst (neA W.u) k_ne (pd_var 1 (pv 1)) (PEf.d (pf_lst as_nil)) (nomark _)) (PEf.d (pf_lst (as_cons (pd_ix ix_both k_ix (pd_var 1 (pv 1)) (pd_var 4 (pv 4)) (fun _ _ => rfl)) (as_cons (pd_ix ix_both k_ix (pd_var 1 (pv 1)) (pd_var 5 (pv 5)) (fun _ _ => rfl)) as_nil star_sub) star_sub))) (PEf.d (pf_lst as_nil))))
 (ss_cons (s_set (i := 7) sc_law_of_two.nd rfl (Or.inl rfl) (pd_call W c_law_added rfl (as_cons (pd_ix ix_both k_ix (pd_var 3 (pv 3)) (pd_var 4 (pv 4)) (fun _ _ => rfl)) (as_cons (pd_ix ix_both k_ix (pd_var 3 (pv 3)) (pd_var 5 (pv 5)) (fun _ _ => rfl)) as_nil star_sub) star_sub)))
 (ss_cons (s_set (i := 8) sc_law_of_two.nd rfl (Or.inl rfl) (PEf.d (pf_call W c_dealt rfl (as_cons (pd_var 0 (pv 0)) (as_cons (pd_var 6 (pv 6)) (as_cons (PEf.d (pf_lst (as_cons (pd_ix ix_both k_ix (pd_var 2 (pv 2)) (pd_var 4 (pv 4)) (fun _ _ => rfl)) (as_cons (pd_ix ix_both k_ix (pd_var 2 (pv 2)) (pd_var 5 (pv 5)) (fun _ _ => rfl)) as_nil star_sub) star_sub))) (as_cons (pd_var 7 (pv 7)) as_nil star_nm) star_lst) star_nm) star_nm))))
 (ss_one (s_ret (pd_cmp (eqA W.u) k_eq (pd_var 8 (pv 8)) (PEf.d (pf_lst (as_cons (pd_ix ix_both k_ix (pd_var 3 (pv 3)) (pd_var 4 (pv 4)) (fun _ _ => rfl)) (as_cons (pd_ix ix_both k_ix (pd_var 3 (pv 3)) (pd_var 5 (pv 5)) (fun _ _ => rfl)) as_nil star_sub) star_sub))) (nomark _)))))))
theorem ok_law_pairs_right (F : Fn K mg "_law_pairs_right" s_law_pairs_right ["way", "weights", "claims", "gets"] f fd) (B : Bt mg) (KT : Kt K) (C : Ct K mg) (R : Rt K mg) (ET : Et K mg) (c_law_of_two : CanM P w K mg base k "_law_of_two" ["way", "weights", "claims", "gets", "one", "other"] m_law_of_two) : CanM P w K mg base (k + 1) "_law_pairs_right" ["way", "weights", "claims", "gets"] m_law_pairs_right :=
  fn_pure F sc_law_pairs_right fun cdv A outer s H E G W WR => (ss_cons (s_for W.own W.calm (i_rng1 rfl B.range (as_cons (pd_callB call_len_seq kb_len rfl B.len PySem.boot_len (as_cons (pd_var 2 (pv 2)) as_nil star_nm)) as_nil star_call)) (g_name (i := 4) sc_law_pairs_right.nd rfl (Or.inl rfl)) gne_name (ss_one (s_for W.own W.calm (i_rng1 rfl B.range (as_cons (pd_var 4 (pv 4)) as_nil star_nm)) (g_name (i := 5) sc_law_pairs_right.nd rfl (Or.inl rfl)) gne_name (ss_one (s_if (pt_n (pt_v (pd_call W c_law_of_two rfl (as_cons (pd_var 0 (pv 0)) (as_cons (pd_var 1 (pv 1)) (as_cons (pd_var 2 (pv 2)) (as_cons (pd_var 3 (pv 3)) (as_cons (pd_var 5 (pv 5)) (as_cons (pd_var 4 (pv 4)) as_nil star_nm) star_nm) star_nm) star_nm) star_nm) star_nm)))) (ss_one (s_ret (pd_c pe_bl fun _ => .bl _))) ss_nil)))))
 (ss_one (s_ret (pd_c pe_bl fun _ => .bl _))))
theorem ok_law (F : Fn K mg "law" s_law ["script"] f fd) (B : Bt mg) (KT : Kt K) (C : Ct K mg) (R : Rt K mg) (ET : Et K mg) (c_law_drawn : CanT P w K mg base k "_law_drawn" ["script", "most"] k_law_drawn) (c_law_caught : CanM P w K mg base k "_law_caught" ["cell", "whole_v"] m_law_caught) (c_dealt : CanM P w K mg base k "dealt" ["way", "weights", "claims", "catch"] m_dealt) (c_law_moved : CanM P w K mg base k "_law_moved" ["claims", "gets", "cell"] m_law_moved) (c_law_cell_at : CanM P w K mg base k "_law_cell_at" ["script", "k"] m_law_cell_at) (c_law_pairs_right : CanM P w K mg base k "_law_pairs_right" ["way", "weights", "claims", "gets"] m_law_pairs_right) (c_law_dealing : CanM P w K mg base k "_law_dealing" ["found", "claims", "catch"] m_law_dealing) : FnOk P w K mg base (CX1 P w) (k + 1) f fd ["script"] (spM K mg 1 m_law) :=
  fn_ok F sc_law fun cdv A outer s H E G W WR => (ss_cons (s_tri W c_law_drawn kt_ne kt_len rfl (as_cons (pd_var 0 (pv 0)) (as_cons (pd_c pe_int fun _ => .int _) as_nil star_c) star_nm) (pg_tup W.calm (pgs_cons (pg_name (i := 1) sc_law.nd rfl (Or.inl rfl)) (pgs_cons (pg_name (i := 2) sc_law.nd rfl (Or.inl rfl)) (pgs_cons (pg_name (i := 3) sc_law.nd rfl (Or.inl rfl)) pgs_nil)))))
 (ss_cons (s_if (PTd.frz (tst (eqA W.u) k_eq (pd_callB call_len_seq kb_len rfl B.len PySem.boot_len (as_cons (pd_var 3 (pv 3)) as_nil star_nm)) (pd_c pe_int fun _ => .int _) (nomark _))) (ss_cons (s_app (i := 3) (pv 3) (pd_op op_modN k_mod (pd_call W c_law_cell_at rfl (as_cons (pd_var 0 (pv 0)) (as_cons (pd_c pe_int fun _ => .int _) as_nil star_c) star_nm)) (pd_c pe_int fun _ => .int _)))
 (ss_one (s_set (i := 2) sc_law.nd rfl (Or.inl rfl) (PEf.d (pf_cat (pd_var 2 (pv 2)) (PEf.d (pf_rep (pf_lst (as_cons (pd_c pe_int fun _ => .int _) as_nil star_c)) (pd_callB call_len_seq kb_len rfl B.len PySem.boot_len (as_cons (pd_var 2 (pv 2)) as_nil star_nm))))))))) ss_nil)
 (ss_cons (s_for W.own W.calm (i_seq (PEf.d (pf_cat (PEf.d (pf_lst (as_cons (pd_call W c_law_cell_at rfl (as_cons (pd_var 0 (pv 0)) (as_cons (pd_c pe_int fun _ => .int _) as_nil star_c) star_nm)) as_nil star_call))) (PEf.d (pf_slice (pd_var 0 (pv 0)) (od_some (pd_c pe_int fun _ => .int _)) (od_some (pd_c pe_int fun _ => .int _))))))) (g_name (i := 4) sc_law.nd rfl (Or.inl rfl)) gne_name (ss_cons (s_set (i := 5) sc_law.nd rfl (Or.inl rfl) (PEd.frz (pd_call W c_law_caught rfl (as_cons (pd_op op_divA k_div (pd_var 4 (pv 4)) (pd_c pe_int fun _ => .int _)) (as_cons (pd_callB (call_sum W.calm) kb_sum rfl B.sum boot_sum2 (as_cons (pd_var 3 (pv 3)) as_nil star_nm)) as_nil star_call) star_bin))))
 (ss_cons (s_set (i := 6) sc_law.nd rfl (Or.inl rfl) (PEf.d (PEf.frz (pf_call W c_dealt rfl (as_cons (pd_var 1 (pv 1)) (as_cons (PEf.d (pf_list rfl B.list boot_list (as_cons (pd_var 2 (pv 2)) as_nil star_nm))) (as_cons (PEf.d (pf_list rfl B.list boot_list (as_cons (pd_var 3 (pv 3)) as_nil star_nm))) (as_cons (pd_var 5 (pv 5)) as_nil star_nm) star_call) star_call) star_nm)))))
 (ss_cons (s_if (PTd.frz (PWd.pt (w_or (pt_n (pt_v (pd_call W c_law_dealing rfl (as_cons (pd_var 6 (pv 6)) (as_cons (pd_var 3 (pv 3)) (as_cons (pd_var 5 (pv 5)) as_nil star_nm) star_nm) star_nm)))) (w_or1 (pt_n (pt_v (pd_call W c_law_pairs_right rfl (as_cons (pd_var 1 (pv 1)) (as_cons (pd_var 2 (pv 2)) (as_cons (pd_var 3 (pv 3)) (as_cons (pd_var 6 (pv 6)) as_nil star_nm) star_nm) star_nm) star_nm)))))))) (ss_one (s_ret (pd_c pe_bl fun _ => .bl _))) ss_nil)
 (ss_cons (s_set (i := 7) sc_law.nd rfl (Or.inl rfl) (PEf.d (PEf.frz (pf_call W c_law_moved rfl (as_cons (pd_var 3 (pv 3)) (as_cons (pd_var 6 (pv 6)) (as_cons (pd_op op_addA k_add (pd_op op_mulA k_mul (pd_var 4 (pv 4)) (pd_c pe_int fun _ => .int _)) (pd_c pe_int fun _ => .int _)) as_nil star_bin) star_nm) star_nm)))))
 (ss_one (s_if (PTd.frz (PWd.pt (w_and (tst (neA W.u) k_ne (pd_var 7 (pv 7)) (pd_var 6 (pv 6)) (nomark _)) (w_and1 (pt_v (pd_call W c_law_pairs_right rfl (as_cons (pd_var 1 (pv 1)) (as_cons (pd_var 2 (pv 2)) (as_cons (pd_var 3 (pv 3)) (as_cons (pd_var 7 (pv 7)) as_nil star_nm) star_nm) star_nm) star_nm))))))) (ss_one (s_ret (pd_c pe_bl fun _ => .bl _))) ss_nil)))))))
 (ss_one (s_ret (pd_c pe_bl fun _ => .bl _))))))
end

end Lw

namespace Lw
open PySem PySem.Spec PyProof.Rows L2 L3
theorem all_mk {l : PySem.W.OpenLaw} {w : World} {K : PySem.W.Frag} {h : Heap} {mg : Str → Option Value} {fa f0 f1 f2 f3 f4 f5 f6 f7 f8 f9 f10 f11 f12 f13 f14 f15 f16 f17 f18 f19 f20 f21 f22 f23 f24 f25 f26 f27 f28 f29 f30 f31 f32 f33 f34 : Addr} (X : K.In h) (G : h.Ns mainGlobals mg) (hfa : mg "law" = some (.ref fa))
    {od0 an0 : Option Addr} {sl0 : Array (Option Value)} {oc0 kV0 dc0 pm0 cd0 ct0 : Value}
    {od1 an1 : Option Addr} {sl1 : Array (Option Value)} {oc1 kV1 dc1 pm1 cd1 ct1 : Value}
    {od2 an2 : Option Addr} {sl2 : Array (Option Value)} {oc2 kV2 dc2 pm2 cd2 ct2 : Value}
    {od3 an3 : Option Addr} {sl3 : Array (Option Value)} {oc3 kV3 dc3 pm3 cd3 ct3 : Value}
    {od4 an4 : Option Addr} {sl4 : Array (Option Value)} {oc4 kV4 dc4 pm4 cd4 ct4 : Value}
    {od5 an5 : Option Addr} {sl5 : Array (Option Value)} {oc5 kV5 dc5 pm5 cd5 ct5 : Value}
    {od6 an6 : Option Addr} {sl6 : Array (Option Value)} {oc6 kV6 dc6 pm6 cd6 ct6 : Value}
    {od7 an7 : Option Addr} {sl7 : Array (Option Value)} {oc7 kV7 dc7 pm7 cd7 ct7 : Value}
    {od8 an8 : Option Addr} {sl8 : Array (Option Value)} {oc8 kV8 dc8 pm8 cd8 ct8 : Value}
    {od9 an9 : Option Addr} {sl9 : Array (Option Value)} {oc9 kV9 dc9 pm9 cd9 ct9 : Value}
    {od10 an10 : Option Addr} {sl10 : Array (Option Value)} {oc10 kV10 dc10 pm10 cd10 ct10 : Value}
    {od11 an11 : Option Addr} {sl11 : Array (Option Value)} {oc11 kV11 dc11 pm11 ct11 : Value}
    {od12 an12 : Option Addr} {sl12 : Array (Option Value)} {oc12 kV12 dc12 pm12 cd12 ct12 : Value}
    {od13 an13 : Option Addr} {sl13 : Array (Option Value)} {oc13 kV13 dc13 pm13 cd13 ct13 : Value}
    {od14 an14 : Option Addr} {sl14 : Array (Option Value)} {oc14 kV14 dc14 pm14 cd14 ct14 : Value}
    {od15 an15 : Option Addr} {sl15 : Array (Option Value)} {oc15 kV15 dc15 pm15 cd15 ct15 : Value}
    {od16 an16 : Option Addr} {sl16 : Array (Option Value)} {oc16 kV16 dc16 pm16 cd16 ct16 : Value}
    {od17 an17 : Option Addr} {sl17 : Array (Option Value)} {oc17 kV17 dc17 pm17 cd17 ct17 : Value}
    {od18 an18 : Option Addr} {sl18 : Array (Option Value)} {oc18 kV18 dc18 pm18 cd18 ct18 : Value}
    {od19 an19 : Option Addr} {sl19 : Array (Option Value)} {oc19 kV19 dc19 pm19 cd19 ct19 : Value}
    {od20 an20 : Option Addr} {sl20 : Array (Option Value)} {oc20 kV20 dc20 pm20 cd20 ct20 : Value}
    {od21 an21 : Option Addr} {sl21 : Array (Option Value)} {oc21 kV21 dc21 pm21 cd21 ct21 : Value}
    {od22 an22 : Option Addr} {sl22 : Array (Option Value)} {oc22 kV22 dc22 pm22 cd22 ct22 : Value}
    {od23 an23 : Option Addr} {sl23 : Array (Option Value)} {oc23 kV23 dc23 pm23 cd23 ct23 : Value}
    {od24 an24 : Option Addr} {sl24 : Array (Option Value)} {oc24 kV24 dc24 pm24 cd24 ct24 : Value}
    {od25 an25 : Option Addr} {sl25 : Array (Option Value)} {oc25 kV25 dc25 pm25 cd25 ct25 : Value}
    {od26 an26 : Option Addr} {sl26 : Array (Option Value)} {oc26 kV26 dc26 pm26 cd26 ct26 : Value}
    {od27 an27 : Option Addr} {sl27 : Array (Option Value)} {oc27 kV27 dc27 pm27 cd27 ct27 : Value}
    {od28 an28 : Option Addr} {sl28 : Array (Option Value)} {oc28 kV28 dc28 pm28 cd28 ct28 : Value}
    {od29 an29 : Option Addr} {sl29 : Array (Option Value)} {oc29 kV29 dc29 pm29 cd29 ct29 : Value}
    {od30 an30 : Option Addr} {sl30 : Array (Option Value)} {oc30 kV30 dc30 pm30 cd30 ct30 : Value}
    {od31 an31 : Option Addr} {sl31 : Array (Option Value)} {oc31 kV31 dc31 pm31 cd31 ct31 : Value}
    {od32 an32 : Option Addr} {sl32 : Array (Option Value)} {oc32 kV32 dc32 pm32 cd32 ct32 : Value}
    {od33 an33 : Option Addr} {sl33 : Array (Option Value)} {oc33 kV33 dc33 pm33 cd33 ct33 : Value}
    {od34 an34 : Option Addr} {sl34 : Array (Option Value)} {oc34 kV34 dc34 pm34 cd34 ct34 : Value}
    (a0 : PySem.W.nsIn K mainGlobals "common_divisor" = some (some (.ref f0))) (l0 : K.lookup f0 = some ⟨oc0, od0, .func (PySem.W.fnOf "common_divisor" "common_divisor" (defArgs s_common_divisor) (defBody s_common_divisor) (defScope s_common_divisor) .none kV0 dc0 pm0 an0 cd0 ct0), sl0⟩) (c0 : PySem.W.codeIn K cd0 "common_divisor" = true) (k0 : PySem.W.keepIn K (.ref f0) = true)
    (a1 : PySem.W.nsIn K mainGlobals "made" = some (some (.ref f1))) (l1 : K.lookup f1 = some ⟨oc1, od1, .func (PySem.W.fnOf "made" "made" (defArgs s_made) (defBody s_made) (defScope s_made) .none kV1 dc1 pm1 an1 cd1 ct1), sl1⟩) (c1 : PySem.W.codeIn K cd1 "made" = true) (k1 : PySem.W.keepIn K (.ref f1) = true)
    (a2 : PySem.W.nsIn K mainGlobals "whole" = some (some (.ref f2))) (l2 : K.lookup f2 = some ⟨oc2, od2, .func (PySem.W.fnOf "whole" "whole" (defArgs s_whole) (defBody s_whole) (defScope s_whole) .none kV2 dc2 pm2 an2 cd2 ct2), sl2⟩) (c2 : PySem.W.codeIn K cd2 "whole" = true) (k2 : PySem.W.keepIn K (.ref f2) = true)
    (a3 : PySem.W.nsIn K mainGlobals "plus" = some (some (.ref f3))) (l3 : K.lookup f3 = some ⟨oc3, od3, .func (PySem.W.fnOf "plus" "plus" (defArgs s_plus) (defBody s_plus) (defScope s_plus) .none kV3 dc3 pm3 an3 cd3 ct3), sl3⟩) (c3 : PySem.W.codeIn K cd3 "plus" = true) (k3 : PySem.W.keepIn K (.ref f3) = true)
    (a4 : PySem.W.nsIn K mainGlobals "minus" = some (some (.ref f4))) (l4 : K.lookup f4 = some ⟨oc4, od4, .func (PySem.W.fnOf "minus" "minus" (defArgs s_minus) (defBody s_minus) (defScope s_minus) .none kV4 dc4 pm4 an4 cd4 ct4), sl4⟩) (c4 : PySem.W.codeIn K cd4 "minus" = true) (k4 : PySem.W.keepIn K (.ref f4) = true)
    (a5 : PySem.W.nsIn K mainGlobals "times" = some (some (.ref f5))) (l5 : K.lookup f5 = some ⟨oc5, od5, .func (PySem.W.fnOf "times" "times" (defArgs s_times) (defBody s_times) (defScope s_times) .none kV5 dc5 pm5 an5 cd5 ct5), sl5⟩) (c5 : PySem.W.codeIn K cd5 "times" = true) (k5 : PySem.W.keepIn K (.ref f5) = true)
    (a6 : PySem.W.nsIn K mainGlobals "over" = some (some (.ref f6))) (l6 : K.lookup f6 = some ⟨oc6, od6, .func (PySem.W.fnOf "over" "over" (defArgs s_over) (defBody s_over) (defScope s_over) .none kV6 dc6 pm6 an6 cd6 ct6), sl6⟩) (c6 : PySem.W.codeIn K cd6 "over" = true) (k6 : PySem.W.keepIn K (.ref f6) = true)
    (a7 : PySem.W.nsIn K mainGlobals "less" = some (some (.ref f7))) (l7 : K.lookup f7 = some ⟨oc7, od7, .func (PySem.W.fnOf "less" "less" (defArgs s_less) (defBody s_less) (defScope s_less) .none kV7 dc7 pm7 an7 cd7 ct7), sl7⟩) (c7 : PySem.W.codeIn K cd7 "less" = true) (k7 : PySem.W.keepIn K (.ref f7) = true)
    (a8 : PySem.W.nsIn K mainGlobals "lesser" = some (some (.ref f8))) (l8 : K.lookup f8 = some ⟨oc8, od8, .func (PySem.W.fnOf "lesser" "lesser" (defArgs s_lesser) (defBody s_lesser) (defScope s_lesser) .none kV8 dc8 pm8 an8 cd8 ct8), sl8⟩) (c8 : PySem.W.codeIn K cd8 "lesser" = true) (k8 : PySem.W.keepIn K (.ref f8) = true)
    (a9 : PySem.W.nsIn K mainGlobals "is_outside" = some (some (.ref f9))) (l9 : K.lookup f9 = some ⟨oc9, od9, .func (PySem.W.fnOf "is_outside" "is_outside" (defArgs s_is_outside) (defBody s_is_outside) (defScope s_is_outside) .none kV9 dc9 pm9 an9 cd9 ct9), sl9⟩) (c9 : PySem.W.codeIn K cd9 "is_outside" = true) (k9 : PySem.W.keepIn K (.ref f9) = true)
    (a10 : PySem.W.nsIn K mainGlobals "refuse_outside" = some (some (.ref f10))) (l10 : K.lookup f10 = some ⟨oc10, od10, .func (PySem.W.fnOf "refuse_outside" "refuse_outside" (defArgs s_refuse_outside) (defBody s_refuse_outside) (defScope s_refuse_outside) .none kV10 dc10 pm10 an10 cd10 ct10), sl10⟩) (c10 : PySem.W.codeIn K cd10 "refuse_outside" = true) (k10 : PySem.W.keepIn K (.ref f10) = true)
    {cR T : Addr}
    (a11 : PySem.W.nsIn K mainGlobals "ranked" = some (some (.ref f11))) (l11 : K.lookup f11 = some ⟨oc11, od11, .func (PySem.W.fnOf "ranked" "ranked" (defArgs s_ranked) (defBody s_ranked) (defScope s_ranked) .none kV11 dc11 pm11 an11 (.ref cR) ct11), sl11⟩) (c11 : PySem.W.codeIn K (.ref cR) "ranked" = true) (k11 : PySem.W.keepIn K (.ref f11) = true)
    (tq : PySem.W.codeHdIn K cR T = true) (tn : K.lookup T = none)
    (a12 : PySem.W.nsIn K mainGlobals "looked" = some (some (.ref f12))) (l12 : K.lookup f12 = some ⟨oc12, od12, .func (PySem.W.fnOf "looked" "looked" (defArgs s_looked) (defBody s_looked) (defScope s_looked) .none kV12 dc12 pm12 an12 cd12 ct12), sl12⟩) (c12 : PySem.W.codeIn K cd12 "looked" = true) (k12 : PySem.W.keepIn K (.ref f12) = true)
    (a13 : PySem.W.nsIn K mainGlobals "refuse_way" = some (some (.ref f13))) (l13 : K.lookup f13 = some ⟨oc13, od13, .func (PySem.W.fnOf "refuse_way" "refuse_way" (defArgs s_refuse_way) (defBody s_refuse_way) (defScope s_refuse_way) .none kV13 dc13 pm13 an13 cd13 ct13), sl13⟩) (c13 : PySem.W.codeIn K cd13 "refuse_way" = true) (k13 : PySem.W.keepIn K (.ref f13) = true)
    (a14 : PySem.W.nsIn K mainGlobals "refuse_claims" = some (some (.ref f14))) (l14 : K.lookup f14 = some ⟨oc14, od14, .func (PySem.W.fnOf "refuse_claims" "refuse_claims" (defArgs s_refuse_claims) (defBody s_refuse_claims) (defScope s_refuse_claims) .none kV14 dc14 pm14 an14 cd14 ct14), sl14⟩) (c14 : PySem.W.codeIn K cd14 "refuse_claims" = true) (k14 : PySem.W.keepIn K (.ref f14) = true)
    (a15 : PySem.W.nsIn K mainGlobals "refuse_weights" = some (some (.ref f15))) (l15 : K.lookup f15 = some ⟨oc15, od15, .func (PySem.W.fnOf "refuse_weights" "refuse_weights" (defArgs s_refuse_weights) (defBody s_refuse_weights) (defScope s_refuse_weights) .none kV15 dc15 pm15 an15 cd15 ct15), sl15⟩) (c15 : PySem.W.codeIn K cd15 "refuse_weights" = true) (k15 : PySem.W.keepIn K (.ref f15) = true)
    (a16 : PySem.W.nsIn K mainGlobals "dealt" = some (some (.ref f16))) (l16 : K.lookup f16 = some ⟨oc16, od16, .func (PySem.W.fnOf "dealt" "dealt" (defArgs s_dealt) (defBody s_dealt) (defScope s_dealt) .none kV16 dc16 pm16 an16 cd16 ct16), sl16⟩) (c16 : PySem.W.codeIn K cd16 "dealt" = true) (k16 : PySem.W.keepIn K (.ref f16) = true)
    (a17 : PySem.W.nsIn K mainGlobals "rightly_dealt" = some (some (.ref f17))) (l17 : K.lookup f17 = some ⟨oc17, od17, .func (PySem.W.fnOf "rightly_dealt" "rightly_dealt" (defArgs s_rightly_dealt) (defBody s_rightly_dealt) (defScope s_rightly_dealt) .none kV17 dc17 pm17 an17 cd17 ct17), sl17⟩) (c17 : PySem.W.codeIn K cd17 "rightly_dealt" = true) (k17 : PySem.W.keepIn K (.ref f17) = true)
    (a18 : PySem.W.nsIn K mainGlobals "row_dealt" = some (some (.ref f18))) (l18 : K.lookup f18 = some ⟨oc18, od18, .func (PySem.W.fnOf "row_dealt" "row_dealt" (defArgs s_row_dealt) (defBody s_row_dealt) (defScope s_row_dealt) .none kV18 dc18 pm18 an18 cd18 ct18), sl18⟩) (c18 : PySem.W.codeIn K cd18 "row_dealt" = true) (k18 : PySem.W.keepIn K (.ref f18) = true)
    (a19 : PySem.W.nsIn K mainGlobals "even_dealt" = some (some (.ref f19))) (l19 : K.lookup f19 = some ⟨oc19, od19, .func (PySem.W.fnOf "even_dealt" "even_dealt" (defArgs s_even_dealt) (defBody s_even_dealt) (defScope s_even_dealt) .none kV19 dc19 pm19 an19 cd19 ct19), sl19⟩) (c19 : PySem.W.codeIn K cd19 "even_dealt" = true) (k19 : PySem.W.keepIn K (.ref f19) = true)
    (a20 : PySem.W.nsIn K mainGlobals "levels_of" = some (some (.ref f20))) (l20 : K.lookup f20 = some ⟨oc20, od20, .func (PySem.W.fnOf "levels_of" "levels_of" (defArgs s_levels_of) (defBody s_levels_of) (defScope s_levels_of) .none kV20 dc20 pm20 an20 cd20 ct20), sl20⟩) (c20 : PySem.W.codeIn K cd20 "levels_of" = true) (k20 : PySem.W.keepIn K (.ref f20) = true)
    (a21 : PySem.W.nsIn K mainGlobals "part_dealt" = some (some (.ref f21))) (l21 : K.lookup f21 = some ⟨oc21, od21, .func (PySem.W.fnOf "part_dealt" "part_dealt" (defArgs s_part_dealt) (defBody s_part_dealt) (defScope s_part_dealt) .none kV21 dc21 pm21 an21 cd21 ct21), sl21⟩) (c21 : PySem.W.codeIn K cd21 "part_dealt" = true) (k21 : PySem.W.keepIn K (.ref f21) = true)
    (a22 : PySem.W.nsIn K mainGlobals "half_dealt" = some (some (.ref f22))) (l22 : K.lookup f22 = some ⟨oc22, od22, .func (PySem.W.fnOf "half_dealt" "half_dealt" (defArgs s_half_dealt) (defBody s_half_dealt) (defScope s_half_dealt) .none kV22 dc22 pm22 an22 cd22 ct22), sl22⟩) (c22 : PySem.W.codeIn K cd22 "half_dealt" = true) (k22 : PySem.W.keepIn K (.ref f22) = true)
    (a23 : PySem.W.nsIn K mainGlobals "_law_cell_at" = some (some (.ref f23))) (l23 : K.lookup f23 = some ⟨oc23, od23, .func (PySem.W.fnOf "_law_cell_at" "_law_cell_at" (defArgs s_law_cell_at) (defBody s_law_cell_at) (defScope s_law_cell_at) .none kV23 dc23 pm23 an23 cd23 ct23), sl23⟩) (c23 : PySem.W.codeIn K cd23 "_law_cell_at" = true) (k23 : PySem.W.keepIn K (.ref f23) = true)
    (a24 : PySem.W.nsIn K mainGlobals "_law_fraction" = some (some (.ref f24))) (l24 : K.lookup f24 = some ⟨oc24, od24, .func (PySem.W.fnOf "_law_fraction" "_law_fraction" (defArgs s_law_fraction) (defBody s_law_fraction) (defScope s_law_fraction) .none kV24 dc24 pm24 an24 cd24 ct24), sl24⟩) (c24 : PySem.W.codeIn K cd24 "_law_fraction" = true) (k24 : PySem.W.keepIn K (.ref f24) = true)
    (a25 : PySem.W.nsIn K mainGlobals "_law_drawn" = some (some (.ref f25))) (l25 : K.lookup f25 = some ⟨oc25, od25, .func (PySem.W.fnOf "_law_drawn" "_law_drawn" (defArgs s_law_drawn) (defBody s_law_drawn) (defScope s_law_drawn) .none kV25 dc25 pm25 an25 cd25 ct25), sl25⟩) (c25 : PySem.W.codeIn K cd25 "_law_drawn" = true) (k25 : PySem.W.keepIn K (.ref f25) = true)
    (a26 : PySem.W.nsIn K mainGlobals "_law_caught" = some (some (.ref f26))) (l26 : K.lookup f26 = some ⟨oc26, od26, .func (PySem.W.fnOf "_law_caught" "_law_caught" (defArgs s_law_caught) (defBody s_law_caught) (defScope s_law_caught) .none kV26 dc26 pm26 an26 cd26 ct26), sl26⟩) (c26 : PySem.W.codeIn K cd26 "_law_caught" = true) (k26 : PySem.W.keepIn K (.ref f26) = true)
    (a27 : PySem.W.nsIn K mainGlobals "_law_is_fraction" = some (some (.ref f27))) (l27 : K.lookup f27 = some ⟨oc27, od27, .func (PySem.W.fnOf "_law_is_fraction" "_law_is_fraction" (defArgs s_law_is_fraction) (defBody s_law_is_fraction) (defScope s_law_is_fraction) .none kV27 dc27 pm27 an27 cd27 ct27), sl27⟩) (c27 : PySem.W.codeIn K cd27 "_law_is_fraction" = true) (k27 : PySem.W.keepIn K (.ref f27) = true)
    (a28 : PySem.W.nsIn K mainGlobals "_law_sum_is" = some (some (.ref f28))) (l28 : K.lookup f28 = some ⟨oc28, od28, .func (PySem.W.fnOf "_law_sum_is" "_law_sum_is" (defArgs s_law_sum_is) (defBody s_law_sum_is) (defScope s_law_sum_is) .none kV28 dc28 pm28 an28 cd28 ct28), sl28⟩) (c28 : PySem.W.codeIn K cd28 "_law_sum_is" = true) (k28 : PySem.W.keepIn K (.ref f28) = true)
    (a29 : PySem.W.nsIn K mainGlobals "_law_dealing" = some (some (.ref f29))) (l29 : K.lookup f29 = some ⟨oc29, od29, .func (PySem.W.fnOf "_law_dealing" "_law_dealing" (defArgs s_law_dealing) (defBody s_law_dealing) (defScope s_law_dealing) .none kV29 dc29 pm29 an29 cd29 ct29), sl29⟩) (c29 : PySem.W.codeIn K cd29 "_law_dealing" = true) (k29 : PySem.W.keepIn K (.ref f29) = true)
    (a30 : PySem.W.nsIn K mainGlobals "_law_of_two" = some (some (.ref f30))) (l30 : K.lookup f30 = some ⟨oc30, od30, .func (PySem.W.fnOf "_law_of_two" "_law_of_two" (defArgs s_law_of_two) (defBody s_law_of_two) (defScope s_law_of_two) .none kV30 dc30 pm30 an30 cd30 ct30), sl30⟩) (c30 : PySem.W.codeIn K cd30 "_law_of_two" = true) (k30 : PySem.W.keepIn K (.ref f30) = true)
    (a31 : PySem.W.nsIn K mainGlobals "_law_added" = some (some (.ref f31))) (l31 : K.lookup f31 = some ⟨oc31, od31, .func (PySem.W.fnOf "_law_added" "_law_added" (defArgs s_law_added) (defBody s_law_added) (defScope s_law_added) .none kV31 dc31 pm31 an31 cd31 ct31), sl31⟩) (c31 : PySem.W.codeIn K cd31 "_law_added" = true) (k31 : PySem.W.keepIn K (.ref f31) = true)
    (a32 : PySem.W.nsIn K mainGlobals "_law_pairs_right" = some (some (.ref f32))) (l32 : K.lookup f32 = some ⟨oc32, od32, .func (PySem.W.fnOf "_law_pairs_right" "_law_pairs_right" (defArgs s_law_pairs_right) (defBody s_law_pairs_right) (defScope s_law_pairs_right) .none kV32 dc32 pm32 an32 cd32 ct32), sl32⟩) (c32 : PySem.W.codeIn K cd32 "_law_pairs_right" = true) (k32 : PySem.W.keepIn K (.ref f32) = true)
    (a33 : PySem.W.nsIn K mainGlobals "_law_moved" = some (some (.ref f33))) (l33 : K.lookup f33 = some ⟨oc33, od33, .func (PySem.W.fnOf "_law_moved" "_law_moved" (defArgs s_law_moved) (defBody s_law_moved) (defScope s_law_moved) .none kV33 dc33 pm33 an33 cd33 ct33), sl33⟩) (c33 : PySem.W.codeIn K cd33 "_law_moved" = true) (k33 : PySem.W.keepIn K (.ref f33) = true)
    (a34 : PySem.W.nsIn K mainGlobals "law" = some (some (.ref f34))) (l34 : K.lookup f34 = some ⟨oc34, od34, .func (PySem.W.fnOf "law" "law" (defArgs s_law) (defBody s_law) (defScope s_law) .none kV34 dc34 pm34 an34 cd34 ct34), sl34⟩) (c34 : PySem.W.codeIn K cd34 "law" = true) (k34 : PySem.W.keepIn K (.ref f34) = true)
    (z_abs : PySem.W.nsIn K mainGlobals "abs" = some none)
    (z_sorted : PySem.W.nsIn K mainGlobals "sorted" = some none)
    (z_range : PySem.W.nsIn K mainGlobals "range" = some none)
    (z_len : PySem.W.nsIn K mainGlobals "len" = some none)
    (z_sum : PySem.W.nsIn K mainGlobals "sum" = some none)
    (z_zip : PySem.W.nsIn K mainGlobals "zip" = some none)
    (z_isinstance : PySem.W.nsIn K mainGlobals "isinstance" = some none)
    (z_tuple : PySem.W.nsIn K mainGlobals "tuple" = some none)
    (z_bool : PySem.W.nsIn K mainGlobals "bool" = some none)
    (z_int : PySem.W.nsIn K mainGlobals "int" = some none)
    (z_list : PySem.W.nsIn K mainGlobals "list" = some none)
    (KT : Kt K) (CC : ∀ (h : Heap) (mg : Str → Option Value), K.In h → h.Ns mainGlobals mg → Ct K mg) (RR : ∀ (h : Heap) (mg : Str → Option Value), K.In h → h.Ns mainGlobals mg → Rt K mg) (EE : ∀ (h : Heap) (mg : Str → Option Value), K.In h → h.Ns mainGlobals mg → Et K mg)
    : K.lookup T = none ∧ IsTabP K mg T ∧ ∃ fd : FuncData, (∀ (s : Shared) (v : Value), BindsTo s fd ⟨[v], []⟩ [("script", v)]) ∧ ∀ base : Heap, K.In base → base.Ns mainGlobals mg → BMn base mg → FnOk l.prog w K mg base (CX1 l.prog w) 12 fa fd ["script"] (spLT K mg) := by
  have e := hfa.symm.trans (PySem.W.mg_of X G a34)
  cases e
  have B : Bt mg := ⟨PySem.W.mg_none_of X G z_abs, PySem.W.mg_none_of X G z_sorted, PySem.W.mg_none_of X G z_range, PySem.W.mg_none_of X G z_len, PySem.W.mg_none_of X G z_sum, PySem.W.mg_none_of X G z_zip, PySem.W.mg_none_of X G z_isinstance, PySem.W.mg_none_of X G z_tuple, PySem.W.mg_none_of X G z_bool, PySem.W.mg_none_of X G z_int, PySem.W.mg_none_of X G z_list⟩
  have C : Ct K mg := CC h mg X G
  have R : Rt K mg := RR h mg X G
  have ET : Et K mg := EE h mg X G
  have hT : IsTabP K mg T := ⟨f11, _, _, _, _, cR, PySem.W.mg_of X G a11, l11, rfl, fun h X => PySem.W.codeHd_of_K X tq⟩
  refine ⟨tn, hT, ?_⟩
  refine ⟨PySem.W.fnOf "law" "law" (defArgs s_law) (defBody s_law) (defScope s_law) .none kV34 dc34 pm34 an34 cd34 ct34, fun s v => .of_eq rfl, fun base _ _ hB => ?_⟩
  have F0 : Fn K mg "common_divisor" s_common_divisor ["one", "two"] _ _ := ⟨fun_mk (st := s_common_divisor) l0 c0 k0, (fun_mk (st := s_common_divisor) l0 c0 k0).binds (ps := ["one", "two"]) fun _ _ _ _ _ _ us hl => by obtain ⟨_, _, rfl⟩ := L3.ln2 hl; rfl, k0, PySem.W.mg_of X G a0⟩
  have c_common_divisor := ok_common_divisor (P := l.prog) (w := w) (base := base) (k := 0) F0 B KT C R ET 
  have F2 : Fn K mg "whole" s_whole ["number"] _ _ := ⟨fun_mk (st := s_whole) l2 c2 k2, (fun_mk (st := s_whole) l2 c2 k2).binds (ps := ["number"]) fun _ _ _ _ _ _ us hl => by obtain ⟨_, rfl⟩ := L3.ln1 hl; rfl, k2, PySem.W.mg_of X G a2⟩
  have c_whole := ok_whole (P := l.prog) (w := w) (base := base) (k := 0) F2 B KT C R ET 
  have F7 : Fn K mg "less" s_less ["one", "two"] _ _ := ⟨fun_mk (st := s_less) l7 c7 k7, (fun_mk (st := s_less) l7 c7 k7).binds (ps := ["one", "two"]) fun _ _ _ _ _ _ us hl => by obtain ⟨_, _, rfl⟩ := L3.ln2 hl; rfl, k7, PySem.W.mg_of X G a7⟩
  have c_less := ok_less (P := l.prog) (w := w) (base := base) (k := 0) F7 B KT C R ET 
  have F11 : Fn K mg "ranked" s_ranked ["some"] _ _ := ⟨fun_mk (st := s_ranked) l11 c11 k11, (fun_mk (st := s_ranked) l11 c11 k11).binds (ps := ["some"]) fun _ _ _ _ _ _ us hl => by obtain ⟨_, rfl⟩ := L3.ln1 hl; rfl, k11, PySem.W.mg_of X G a11⟩
  have c_ranked := ok_ranked (P := l.prog) (w := w) (base := base) (k := 0) F11 B KT C R ET hT hB
  have F13 : Fn K mg "refuse_way" s_refuse_way ["way"] _ _ := ⟨fun_mk (st := s_refuse_way) l13 c13 k13, (fun_mk (st := s_refuse_way) l13 c13 k13).binds (ps := ["way"]) fun _ _ _ _ _ _ us hl => by obtain ⟨_, rfl⟩ := L3.ln1 hl; rfl, k13, PySem.W.mg_of X G a13⟩
  have c_refuse_way := ok_refuse_way (P := l.prog) (w := w) (base := base) (k := 0) F13 B KT C R ET 
  have F14 : Fn K mg "refuse_claims" s_refuse_claims ["claims"] _ _ := ⟨fun_mk (st := s_refuse_claims) l14 c14 k14, (fun_mk (st := s_refuse_claims) l14 c14 k14).binds (ps := ["claims"]) fun _ _ _ _ _ _ us hl => by obtain ⟨_, rfl⟩ := L3.ln1 hl; rfl, k14, PySem.W.mg_of X G a14⟩
  have c_refuse_claims := ok_refuse_claims (P := l.prog) (w := w) (base := base) (k := 0) F14 B KT C R ET 
  have F15 : Fn K mg "refuse_weights" s_refuse_weights ["way", "weights", "many"] _ _ := ⟨fun_mk (st := s_refuse_weights) l15 c15 k15, (fun_mk (st := s_refuse_weights) l15 c15 k15).binds (ps := ["way", "weights", "many"]) fun _ _ _ _ _ _ us hl => by obtain ⟨_, _, _, rfl⟩ := L3.ln3 hl; rfl, k15, PySem.W.mg_of X G a15⟩
  have c_refuse_weights := ok_refuse_weights (P := l.prog) (w := w) (base := base) (k := 0) F15 B KT C R ET 
  have F23 : Fn K mg "_law_cell_at" s_law_cell_at ["script", "k"] _ _ := ⟨fun_mk (st := s_law_cell_at) l23 c23 k23, (fun_mk (st := s_law_cell_at) l23 c23 k23).binds (ps := ["script", "k"]) fun _ _ _ _ _ _ us hl => by obtain ⟨_, _, rfl⟩ := L3.ln2 hl; rfl, k23, PySem.W.mg_of X G a23⟩
  have c_law_cell_at := ok_law_cell_at (P := l.prog) (w := w) (base := base) (k := 0) F23 B KT C R ET 
  have F24 : Fn K mg "_law_fraction" s_law_fraction ["top", "bottom"] _ _ := ⟨fun_mk (st := s_law_fraction) l24 c24 k24, (fun_mk (st := s_law_fraction) l24 c24 k24).binds (ps := ["top", "bottom"]) fun _ _ _ _ _ _ us hl => by obtain ⟨_, _, rfl⟩ := L3.ln2 hl; rfl, k24, PySem.W.mg_of X G a24⟩
  have c_law_fraction := ok_law_fraction (P := l.prog) (w := w) (base := base) (k := 0) F24 B KT C R ET 
  have F28 : Fn K mg "_law_sum_is" s_law_sum_is ["gets", "catch"] _ _ := ⟨fun_mk (st := s_law_sum_is) l28 c28 k28, (fun_mk (st := s_law_sum_is) l28 c28 k28).binds (ps := ["gets", "catch"]) fun _ _ _ _ _ _ us hl => by obtain ⟨_, _, rfl⟩ := L3.ln2 hl; rfl, k28, PySem.W.mg_of X G a28⟩
  have c_law_sum_is := ok_law_sum_is (P := l.prog) (w := w) (base := base) (k := 0) F28 B KT C R ET 
  have F1 : Fn K mg "made" s_made ["top", "bottom"] _ _ := ⟨fun_mk (st := s_made) l1 c1 k1, (fun_mk (st := s_made) l1 c1 k1).binds (ps := ["top", "bottom"]) fun _ _ _ _ _ _ us hl => by obtain ⟨_, _, rfl⟩ := L3.ln2 hl; rfl, k1, PySem.W.mg_of X G a1⟩
  have c_made := ok_made (P := l.prog) (w := w) (base := base) (k := 1) F1 B KT C R ET (c_common_divisor := c_common_divisor.mono (by decide))
  have F8 : Fn K mg "lesser" s_lesser ["one", "two"] _ _ := ⟨fun_mk (st := s_lesser) l8 c8 k8, (fun_mk (st := s_lesser) l8 c8 k8).binds (ps := ["one", "two"]) fun _ _ _ _ _ _ us hl => by obtain ⟨_, _, rfl⟩ := L3.ln2 hl; rfl, k8, PySem.W.mg_of X G a8⟩
  have c_lesser := ok_lesser (P := l.prog) (w := w) (base := base) (k := 1) F8 B KT C R ET (c_less := c_less.mono (by decide))
  have F9 : Fn K mg "is_outside" s_is_outside ["amount", "most"] _ _ := ⟨fun_mk (st := s_is_outside) l9 c9 k9, (fun_mk (st := s_is_outside) l9 c9 k9).binds (ps := ["amount", "most"]) fun _ _ _ _ _ _ us hl => by obtain ⟨_, _, rfl⟩ := L3.ln2 hl; rfl, k9, PySem.W.mg_of X G a9⟩
  have c_is_outside := ok_is_outside (P := l.prog) (w := w) (base := base) (k := 1) F9 B KT C R ET (c_less := c_less.mono (by decide))
  have F12 : Fn K mg "looked" s_looked ["way", "weights", "claims"] _ _ := ⟨fun_mk (st := s_looked) l12 c12 k12, (fun_mk (st := s_looked) l12 c12 k12).binds (ps := ["way", "weights", "claims"]) fun _ _ _ _ _ _ us hl => by obtain ⟨_, _, _, rfl⟩ := L3.ln3 hl; rfl, k12, PySem.W.mg_of X G a12⟩
  have c_looked := ok_looked (P := l.prog) (w := w) (base := base) (k := 1) F12 B KT C R ET (c_refuse_way := c_refuse_way.mono (by decide)) (c_refuse_claims := c_refuse_claims.mono (by decide)) (c_refuse_weights := c_refuse_weights.mono (by decide))
  have F25 : Fn K mg "_law_drawn" s_law_drawn ["script", "most"] _ _ := ⟨fun_mk (st := s_law_drawn) l25 c25 k25, (fun_mk (st := s_law_drawn) l25 c25 k25).binds (ps := ["script", "most"]) fun _ _ _ _ _ _ us hl => by obtain ⟨_, _, rfl⟩ := L3.ln2 hl; rfl, k25, PySem.W.mg_of X G a25⟩
  have c_law_drawn := ok_law_drawn (P := l.prog) (w := w) (base := base) (k := 1) F25 B KT C R ET (c_law_cell_at := c_law_cell_at.mono (by decide))
  have F26 : Fn K mg "_law_caught" s_law_caught ["cell", "whole_v"] _ _ := ⟨fun_mk (st := s_law_caught) l26 c26 k26, (fun_mk (st := s_law_caught) l26 c26 k26).binds (ps := ["cell", "whole_v"]) fun _ _ _ _ _ _ us hl => by obtain ⟨_, _, rfl⟩ := L3.ln2 hl; rfl, k26, PySem.W.mg_of X G a26⟩
  have c_law_caught := ok_law_caught (P := l.prog) (w := w) (base := base) (k := 1) F26 B KT C R ET (c_law_fraction := c_law_fraction.mono (by decide))
  have F27 : Fn K mg "_law_is_fraction" s_law_is_fraction ["found"] _ _ := ⟨fun_mk (st := s_law_is_fraction) l27 c27 k27, (fun_mk (st := s_law_is_fraction) l27 c27 k27).binds (ps := ["found"]) fun _ _ _ _ _ _ us hl => by obtain ⟨_, rfl⟩ := L3.ln1 hl; rfl, k27, PySem.W.mg_of X G a27⟩
  have c_law_is_fraction := ok_law_is_fraction (P := l.prog) (w := w) (base := base) (k := 1) F27 B KT C R ET (c_law_fraction := c_law_fraction.mono (by decide))
  have F31 : Fn K mg "_law_added" s_law_added ["one", "two"] _ _ := ⟨fun_mk (st := s_law_added) l31 c31 k31, (fun_mk (st := s_law_added) l31 c31 k31).binds (ps := ["one", "two"]) fun _ _ _ _ _ _ us hl => by obtain ⟨_, _, rfl⟩ := L3.ln2 hl; rfl, k31, PySem.W.mg_of X G a31⟩
  have c_law_added := ok_law_added (P := l.prog) (w := w) (base := base) (k := 1) F31 B KT C R ET (c_law_fraction := c_law_fraction.mono (by decide))
  have F3 : Fn K mg "plus" s_plus ["one", "two"] _ _ := ⟨fun_mk (st := s_plus) l3 c3 k3, (fun_mk (st := s_plus) l3 c3 k3).binds (ps := ["one", "two"]) fun _ _ _ _ _ _ us hl => by obtain ⟨_, _, rfl⟩ := L3.ln2 hl; rfl, k3, PySem.W.mg_of X G a3⟩
  have c_plus := ok_plus (P := l.prog) (w := w) (base := base) (k := 2) F3 B KT C R ET (c_made := c_made.mono (by decide))
  have F4 : Fn K mg "minus" s_minus ["one", "two"] _ _ := ⟨fun_mk (st := s_minus) l4 c4 k4, (fun_mk (st := s_minus) l4 c4 k4).binds (ps := ["one", "two"]) fun _ _ _ _ _ _ us hl => by obtain ⟨_, _, rfl⟩ := L3.ln2 hl; rfl, k4, PySem.W.mg_of X G a4⟩
  have c_minus := ok_minus (P := l.prog) (w := w) (base := base) (k := 2) F4 B KT C R ET (c_made := c_made.mono (by decide))
  have F5 : Fn K mg "times" s_times ["one", "two"] _ _ := ⟨fun_mk (st := s_times) l5 c5 k5, (fun_mk (st := s_times) l5 c5 k5).binds (ps := ["one", "two"]) fun _ _ _ _ _ _ us hl => by obtain ⟨_, _, rfl⟩ := L3.ln2 hl; rfl, k5, PySem.W.mg_of X G a5⟩
  have c_times := ok_times (P := l.prog) (w := w) (base := base) (k := 2) F5 B KT C R ET (c_made := c_made.mono (by decide))
  have F6 : Fn K mg "over" s_over ["one", "two"] _ _ := ⟨fun_mk (st := s_over) l6 c6 k6, (fun_mk (st := s_over) l6 c6 k6).binds (ps := ["one", "two"]) fun _ _ _ _ _ _ us hl => by obtain ⟨_, _, rfl⟩ := L3.ln2 hl; rfl, k6, PySem.W.mg_of X G a6⟩
  have c_over := ok_over (P := l.prog) (w := w) (base := base) (k := 2) F6 B KT C R ET (c_made := c_made.mono (by decide))
  have F10 : Fn K mg "refuse_outside" s_refuse_outside ["amount", "most"] _ _ := ⟨fun_mk (st := s_refuse_outside) l10 c10 k10, (fun_mk (st := s_refuse_outside) l10 c10 k10).binds (ps := ["amount", "most"]) fun _ _ _ _ _ _ us hl => by obtain ⟨_, _, rfl⟩ := L3.ln2 hl; rfl, k10, PySem.W.mg_of X G a10⟩
  have c_refuse_outside := ok_refuse_outside (P := l.prog) (w := w) (base := base) (k := 2) F10 B KT C R ET (c_is_outside := c_is_outside.mono (by decide))
  have F20 : Fn K mg "levels_of" s_levels_of ["weights", "claims"] _ _ := ⟨fun_mk (st := s_levels_of) l20 c20 k20, (fun_mk (st := s_levels_of) l20 c20 k20).binds (ps := ["weights", "claims"]) fun _ _ _ _ _ _ us hl => by obtain ⟨_, _, rfl⟩ := L3.ln2 hl; rfl, k20, PySem.W.mg_of X G a20⟩
  have c_levels_of := ok_levels_of (P := l.prog) (w := w) (base := base) (k := 2) F20 B KT C R ET (c_made := c_made.mono (by decide))
  have F29 : Fn K mg "_law_dealing" s_law_dealing ["found", "claims", "catch"] _ _ := ⟨fun_mk (st := s_law_dealing) l29 c29 k29, (fun_mk (st := s_law_dealing) l29 c29 k29).binds (ps := ["found", "claims", "catch"]) fun _ _ _ _ _ _ us hl => by obtain ⟨_, _, _, rfl⟩ := L3.ln3 hl; rfl, k29, PySem.W.mg_of X G a29⟩
  have c_law_dealing := ok_law_dealing (P := l.prog) (w := w) (base := base) (k := 2) F29 B KT C R ET (c_law_sum_is := c_law_sum_is.mono (by decide)) (c_law_is_fraction := c_law_is_fraction.mono (by decide))
  have F33 : Fn K mg "_law_moved" s_law_moved ["claims", "gets", "cell"] _ _ := ⟨fun_mk (st := s_law_moved) l33 c33 k33, (fun_mk (st := s_law_moved) l33 c33 k33).binds (ps := ["claims", "gets", "cell"]) fun _ _ _ _ _ _ us hl => by obtain ⟨_, _, _, rfl⟩ := L3.ln3 hl; rfl, k33, PySem.W.mg_of X G a33⟩
  have c_law_moved := ok_law_moved (P := l.prog) (w := w) (base := base) (k := 2) F33 B KT C R ET (c_law_added := c_law_added.mono (by decide)) (c_law_fraction := c_law_fraction.mono (by decide))
  have F18 : Fn K mg "row_dealt" s_row_dealt ["claims", "catch"] _ _ := ⟨fun_mk (st := s_row_dealt) l18 c18 k18, (fun_mk (st := s_row_dealt) l18 c18 k18).binds (ps := ["claims", "catch"]) fun _ _ _ _ _ _ us hl => by obtain ⟨_, _, rfl⟩ := L3.ln2 hl; rfl, k18, PySem.W.mg_of X G a18⟩
  have c_row_dealt := ok_row_dealt (P := l.prog) (w := w) (base := base) (k := 3) F18 B KT C R ET (c_lesser := c_lesser.mono (by decide)) (c_minus := c_minus.mono (by decide)) (c_whole := c_whole.mono (by decide))
  have F19 : Fn K mg "even_dealt" s_even_dealt ["weights", "claims", "catch"] _ _ := ⟨fun_mk (st := s_even_dealt) l19 c19 k19, (fun_mk (st := s_even_dealt) l19 c19 k19).binds (ps := ["weights", "claims", "catch"]) fun _ _ _ _ _ _ us hl => by obtain ⟨_, _, _, rfl⟩ := L3.ln3 hl; rfl, k19, PySem.W.mg_of X G a19⟩
  have c_even_dealt := ok_even_dealt (P := l.prog) (w := w) (base := base) (k := 3) F19 B KT C R ET (c_ranked := c_ranked.mono (by decide)) (c_levels_of := c_levels_of.mono (by decide)) (c_over := c_over.mono (by decide)) (c_lesser := c_lesser.mono (by decide)) (c_minus := c_minus.mono (by decide)) (c_times := c_times.mono (by decide)) (c_whole := c_whole.mono (by decide))
  have F21 : Fn K mg "part_dealt" s_part_dealt ["claims", "catch"] _ _ := ⟨fun_mk (st := s_part_dealt) l21 c21 k21, (fun_mk (st := s_part_dealt) l21 c21 k21).binds (ps := ["claims", "catch"]) fun _ _ _ _ _ _ us hl => by obtain ⟨_, _, rfl⟩ := L3.ln2 hl; rfl, k21, PySem.W.mg_of X G a21⟩
  have c_part_dealt := ok_part_dealt (P := l.prog) (w := w) (base := base) (k := 3) F21 B KT C R ET (c_over := c_over.mono (by decide)) (c_whole := c_whole.mono (by decide)) (c_times := c_times.mono (by decide))
  have F22 : Fn K mg "half_dealt" s_half_dealt ["claims", "catch"] _ _ := ⟨fun_mk (st := s_half_dealt) l22 c22 k22, (fun_mk (st := s_half_dealt) l22 c22 k22).binds (ps := ["claims", "catch"]) fun _ _ _ _ _ _ us hl => by obtain ⟨_, _, rfl⟩ := L3.ln2 hl; rfl, k22, PySem.W.mg_of X G a22⟩
  have c_half_dealt := ok_half_dealt (P := l.prog) (w := w) (base := base) (k := 4) F22 B KT C R ET (c_times := c_times.mono (by decide)) (c_even_dealt := c_even_dealt.mono (by decide)) (c_plus := c_plus.mono (by decide))
  have F17 : Fn K mg "rightly_dealt" s_rightly_dealt ["way", "weights", "claims", "catch"] _ _ := ⟨fun_mk (st := s_rightly_dealt) l17 c17 k17, (fun_mk (st := s_rightly_dealt) l17 c17 k17).binds (ps := ["way", "weights", "claims", "catch"]) fun _ _ _ _ _ _ us hl => by obtain ⟨_, _, _, _, rfl⟩ := L3.ln4 hl; rfl, k17, PySem.W.mg_of X G a17⟩
  have c_rightly_dealt := ok_rightly_dealt (P := l.prog) (w := w) (base := base) (k := 5) F17 B KT C R ET (c_whole := c_whole.mono (by decide)) (c_row_dealt := c_row_dealt.mono (by decide)) (c_even_dealt := c_even_dealt.mono (by decide)) (c_part_dealt := c_part_dealt.mono (by decide)) (c_half_dealt := c_half_dealt.mono (by decide)) (c_minus := c_minus.mono (by decide)) (c_less := c_less.mono (by decide)) (c_plus := c_plus.mono (by decide)) 2
  have F16 : Fn K mg "dealt" s_dealt ["way", "weights", "claims", "catch"] _ _ := ⟨fun_mk (st := s_dealt) l16 c16 k16, (fun_mk (st := s_dealt) l16 c16 k16).binds (ps := ["way", "weights", "claims", "catch"]) fun _ _ _ _ _ _ us hl => by obtain ⟨_, _, _, _, rfl⟩ := L3.ln4 hl; rfl, k16, PySem.W.mg_of X G a16⟩
  have c_dealt := ok_dealt (P := l.prog) (w := w) (base := base) (k := 8) F16 B KT C R ET (c_looked := c_looked.mono (by decide)) (c_refuse_outside := c_refuse_outside.mono (by decide)) (c_rightly_dealt := c_rightly_dealt.mono (by decide)) (c_whole := c_whole.mono (by decide))
  have F30 : Fn K mg "_law_of_two" s_law_of_two ["way", "weights", "claims", "gets", "one", "other"] _ _ := ⟨fun_mk (st := s_law_of_two) l30 c30 k30, (fun_mk (st := s_law_of_two) l30 c30 k30).binds (ps := ["way", "weights", "claims", "gets", "one", "other"]) fun _ _ _ _ _ _ us hl => by obtain ⟨_, _, _, _, _, _, rfl⟩ := L3.ln6 hl; rfl, k30, PySem.W.mg_of X G a30⟩
  have c_law_of_two := ok_law_of_two (P := l.prog) (w := w) (base := base) (k := 9) F30 B KT C R ET (c_law_added := c_law_added.mono (by decide)) (c_dealt := c_dealt.mono (by decide))
  have F32 : Fn K mg "_law_pairs_right" s_law_pairs_right ["way", "weights", "claims", "gets"] _ _ := ⟨fun_mk (st := s_law_pairs_right) l32 c32 k32, (fun_mk (st := s_law_pairs_right) l32 c32 k32).binds (ps := ["way", "weights", "claims", "gets"]) fun _ _ _ _ _ _ us hl => by obtain ⟨_, _, _, _, rfl⟩ := L3.ln4 hl; rfl, k32, PySem.W.mg_of X G a32⟩
  have c_law_pairs_right := ok_law_pairs_right (P := l.prog) (w := w) (base := base) (k := 10) F32 B KT C R ET (c_law_of_two := c_law_of_two.mono (by decide))
  have F34 : Fn K mg "law" s_law ["script"] _ _ := ⟨fun_mk (st := s_law) l34 c34 k34, (fun_mk (st := s_law) l34 c34 k34).binds (ps := ["script"]) fun _ _ _ _ _ _ us hl => by obtain ⟨_, rfl⟩ := L3.ln1 hl; rfl, k34, PySem.W.mg_of X G a34⟩
  have c_law := ok_law (P := l.prog) (w := w) (base := base) (k := 11) F34 B KT C R ET (c_law_drawn := c_law_drawn.mono (by decide)) (c_law_caught := c_law_caught.mono (by decide)) (c_dealt := c_dealt.mono (by decide)) (c_law_moved := c_law_moved.mono (by decide)) (c_law_cell_at := c_law_cell_at.mono (by decide)) (c_law_pairs_right := c_law_pairs_right.mono (by decide)) (c_law_dealing := c_law_dealing.mono (by decide))
  exact law_atR c_law law_true
end Lw
open PySem PySem.W PyProof.Rows
set_option maxRecDepth 100000 in
set_option maxHeartbeats 0 in
theorem PySem.Challenge.cw_catchhall_k17_whole_each_two_holds : PySem.Challenge.rw_catchhall_k17_whole_each_two.Holds := by
  w_on; o_law; k_head; (case hw => w_witness2)
  k_fill
  refine L3.walkR (l := PySem.Challenge.rw_catchhall_k17_whole_each_two) (k := 12) rfl rfl ⟨rfl, by decide, by decide⟩ (fun w h Y => PySem.W.km_in_of Y) (fun w h Y => PySem.W.km_tabs_of Y _ (.head _)) ?F
  case F =>
    intro w mg fa h KX G hmg
    refine' Lw.all_mk KX G hmg ?a0 ?l0 ?c0 ?k0 ?a1 ?l1 ?c1 ?k1 ?a2 ?l2 ?c2 ?k2 ?a3 ?l3 ?c3 ?k3 ?a4 ?l4 ?c4 ?k4 ?a5 ?l5 ?c5 ?k5 ?a6 ?l6 ?c6 ?k6 ?a7 ?l7 ?c7 ?k7 ?a8 ?l8 ?c8 ?k8 ?a9 ?l9 ?c9 ?k9 ?a10 ?l10 ?c10 ?k10 ?a11 ?l11 ?c11 ?k11 ?tq ?tn ?a12 ?l12 ?c12 ?k12 ?a13 ?l13 ?c13 ?k13 ?a14 ?l14 ?c14 ?k14 ?a15 ?l15 ?c15 ?k15 ?a16 ?l16 ?c16 ?k16 ?a17 ?l17 ?c17 ?k17 ?a18 ?l18 ?c18 ?k18 ?a19 ?l19 ?c19 ?k19 ?a20 ?l20 ?c20 ?k20 ?a21 ?l21 ?c21 ?k21 ?a22 ?l22 ?c22 ?k22 ?a23 ?l23 ?c23 ?k23 ?a24 ?l24 ?c24 ?k24 ?a25 ?l25 ?c25 ?k25 ?a26 ?l26 ?c26 ?k26 ?a27 ?l27 ?c27 ?k27 ?a28 ?l28 ?c28 ?k28 ?a29 ?l29 ?c29 ?k29 ?a30 ?l30 ?c30 ?k30 ?a31 ?l31 ?c31 ?k31 ?a32 ?l32 ?c32 ?k32 ?a33 ?l33 ?c33 ?k33 ?a34 ?l34 ?c34 ?k34 ?z_abs ?z_sorted ?z_range ?z_len ?z_sum ?z_zip ?z_isinstance ?z_tuple ?z_bool ?z_int ?z_list ?KT ?CC ?RR ?EE
    (case a0 => k_is)
    (case l0 => k_is)
    (case c0 => k_is)
    (case k0 => k_is)
    (case a1 => k_is)
    (case l1 => k_is)
    (case c1 => k_is)
    (case k1 => k_is)
    (case a2 => k_is)
    (case l2 => k_is)
    (case c2 => k_is)
    (case k2 => k_is)
    (case a3 => k_is)
    (case l3 => k_is)
    (case c3 => k_is)
    (case k3 => k_is)
    (case a4 => k_is)
    (case l4 => k_is)
    (case c4 => k_is)
    (case k4 => k_is)
    (case a5 => k_is)
    (case l5 => k_is)
    (case c5 => k_is)
    (case k5 => k_is)
    (case a6 => k_is)
    (case l6 => k_is)
    (case c6 => k_is)
    (case k6 => k_is)
    (case a7 => k_is)
    (case l7 => k_is)
    (case c7 => k_is)
    (case k7 => k_is)
    (case a8 => k_is)
    (case l8 => k_is)
    (case c8 => k_is)
    (case k8 => k_is)
    (case a9 => k_is)
    (case l9 => k_is)
    (case c9 => k_is)
    (case k9 => k_is)
    (case a10 => k_is)
    (case l10 => k_is)
    (case c10 => k_is)
    (case k10 => k_is)
    (case a11 => k_is)
    (case l11 => k_is)
    (case c11 => k_is)
    (case k11 => k_is)
    (case tq => first | k_is | kernel_rfl | kn_code | decide +kernel)
    (case tn => first | k_is | kernel_rfl | kn_code | decide +kernel)
    (case a12 => k_is)
    (case l12 => k_is)
    (case c12 => k_is)
    (case k12 => k_is)
    (case a13 => k_is)
    (case l13 => k_is)
    (case c13 => k_is)
    (case k13 => k_is)
    (case a14 => k_is)
    (case l14 => k_is)
    (case c14 => k_is)
    (case k14 => k_is)
    (case a15 => k_is)
    (case l15 => k_is)
    (case c15 => k_is)
    (case k15 => k_is)
    (case a16 => k_is)
    (case l16 => k_is)
    (case c16 => k_is)
    (case k16 => k_is)
    (case a17 => k_is)
    (case l17 => k_is)
    (case c17 => k_is)
    (case k17 => k_is)
    (case a18 => k_is)
    (case l18 => k_is)
    (case c18 => k_is)
    (case k18 => k_is)
    (case a19 => k_is)
    (case l19 => k_is)
    (case c19 => k_is)
    (case k19 => k_is)
    (case a20 => k_is)
    (case l20 => k_is)
    (case c20 => k_is)
    (case k20 => k_is)
    (case a21 => k_is)
    (case l21 => k_is)
    (case c21 => k_is)
    (case k21 => k_is)
    (case a22 => k_is)
    (case l22 => k_is)
    (case c22 => k_is)
    (case k22 => k_is)
    (case a23 => k_is)
    (case l23 => k_is)
    (case c23 => k_is)
    (case k23 => k_is)
    (case a24 => k_is)
    (case l24 => k_is)
    (case c24 => k_is)
    (case k24 => k_is)
    (case a25 => k_is)
    (case l25 => k_is)
    (case c25 => k_is)
    (case k25 => k_is)
    (case a26 => k_is)
    (case l26 => k_is)
    (case c26 => k_is)
    (case k26 => k_is)
    (case a27 => k_is)
    (case l27 => k_is)
    (case c27 => k_is)
    (case k27 => k_is)
    (case a28 => k_is)
    (case l28 => k_is)
    (case c28 => k_is)
    (case k28 => k_is)
    (case a29 => k_is)
    (case l29 => k_is)
    (case c29 => k_is)
    (case k29 => k_is)
    (case a30 => k_is)
    (case l30 => k_is)
    (case c30 => k_is)
    (case k30 => k_is)
    (case a31 => k_is)
    (case l31 => k_is)
    (case c31 => k_is)
    (case k31 => k_is)
    (case a32 => k_is)
    (case l32 => k_is)
    (case c32 => k_is)
    (case k32 => k_is)
    (case a33 => k_is)
    (case l33 => k_is)
    (case c33 => k_is)
    (case k33 => k_is)
    (case a34 => k_is)
    (case l34 => k_is)
    (case c34 => k_is)
    (case k34 => k_is)
    (case z_abs => k_is)
    (case z_sorted => k_is)
    (case z_range => k_is)
    (case z_len => k_is)
    (case z_sum => k_is)
    (case z_zip => k_is)
    (case z_isinstance => k_is)
    (case z_tuple => k_is)
    (case z_bool => k_is)
    (case z_int => k_is)
    (case z_list => k_is)
    (case KT => refine' ⟨⟨?t0_0, ?t0_1, ?t0_2, ?t0_3, ?t0_4, ?t0_5⟩, ⟨?t1_0, ?t1_1, ?t1_2, ?t1_3, ?t1_4, ?t1_5⟩, ⟨?t2_0, ?t2_1, ?t2_2, ?t2_3, ?t2_4, ?t2_5⟩, ⟨?t3_0, ?t3_1, ?t3_2, ?t3_3, ?t3_4, ?t3_5⟩⟩ <;> (first | kit_is | (show _ = some true; kit_is) | (show _ = some false; kit_is) | rfl | decide +kernel))
    (case CC =>
      intro h mg X G
      refine' Lw.ct_mk X G ?n_HALF ?pHALF0_l ?n_NOUGHT ?pNOUGHT1_l ?n_WEIGHTED ?pWEIGHTED2_l ?n_CONTRARY ?t_CONTRARY
      (case n_HALF => first | k_is | kit_is | k_exc | rfl | decide +kernel | kernel_rfl)
      (case pHALF0_l => first | k_is | kit_is | k_exc | rfl | decide +kernel | kernel_rfl)
      (case n_NOUGHT => first | k_is | kit_is | k_exc | rfl | decide +kernel | kernel_rfl)
      (case pNOUGHT1_l => first | k_is | kit_is | k_exc | rfl | decide +kernel | kernel_rfl)
      (case n_WEIGHTED => first | k_is | kit_is | k_exc | rfl | decide +kernel | kernel_rfl)
      (case pWEIGHTED2_l => first | k_is | kit_is | k_exc | rfl | decide +kernel | kernel_rfl)
      (case n_CONTRARY => first | k_is | kit_is | k_exc | rfl | decide +kernel | kernel_rfl)
      (case t_CONTRARY => first | k_is | kit_is | k_exc | rfl | decide +kernel | kernel_rfl))
    (case RR =>
      intro h mg X G
      refine' Lw.rt_mk X G ?n_BadClaim ?x_BadClaim ?n_BadWay ?x_BadWay ?n_BadWeights ?x_BadWeights ?n_NoFraction ?x_NoFraction ?n_Outside ?x_Outside
      (case n_BadClaim => first | k_is | kit_is | k_exc | rfl | decide +kernel | kernel_rfl)
      (case x_BadClaim => first | k_is | kit_is | k_exc | rfl | decide +kernel | kernel_rfl)
      (case n_BadWay => first | k_is | kit_is | k_exc | rfl | decide +kernel | kernel_rfl)
      (case x_BadWay => first | k_is | kit_is | k_exc | rfl | decide +kernel | kernel_rfl)
      (case n_BadWeights => first | k_is | kit_is | k_exc | rfl | decide +kernel | kernel_rfl)
      (case x_BadWeights => first | k_is | kit_is | k_exc | rfl | decide +kernel | kernel_rfl)
      (case n_NoFraction => first | k_is | kit_is | k_exc | rfl | decide +kernel | kernel_rfl)
      (case x_NoFraction => first | k_is | kit_is | k_exc | rfl | decide +kernel | kernel_rfl)
      (case n_Outside => first | k_is | kit_is | k_exc | rfl | decide +kernel | kernel_rfl)
      (case x_Outside => first | k_is | kit_is | k_exc | rfl | decide +kernel | kernel_rfl))
    (case EE =>
      intro h mg X G
      refine' Lw.et_mk X G )

