import PyProof.Rows.All
import Wide.All
import OpenK.AllK
import Wide.FinOn
import Lean
import PyProof.EqAt
import PyProof.EqKinds
import PyProof.TupleCall
import PyProof.NeKinds
import KE.KRevIter
import PyProof.Rows.SumAny
import PySem.Challenge.RW_catchhall_k23_boats_and_knots
set_option Elab.async false
set_option linter.all false
set_option maxRecDepth 100000
/-! THE HAND LAYER, for ints, bools, texts, own classes, LISTS and tuples (index, slices, in, append, pop ..), calls, loops. Paste it whole ahead of your own text; what your proof does not reach may be deleted. -/
namespace L2
open PySem PySem.Spec PyProof.Rows

/-- a key: an int or a str -/
noncomputable abbrev Key := Sum Int Str
noncomputable def keyIs : Key → Value → Bool
  | .inl k, v => Value.isInt k v
  | .inr x, v => Value.isStrOf x v
noncomputable def keyH (w : World) : Key → Int
  | .inl k => hashInt k
  | .inr x => hashStr w x
theorem keyIs_shape : ∀ {k : Key} {v : Value}, keyIs k v = true → (∃ i t, k = Sum.inl i ∧ v = Value.int i t) ∨ (∃ x t, k = Sum.inr x ∧ v = Value.str x t)
  | .inl i, v, h => by
    obtain ⟨t, e⟩ := Value.isInt_shape (k := i) (v := v) h
    exact .inl ⟨i, t, rfl, e⟩
  | .inr x, v, h => by
    obtain ⟨t, e⟩ := Value.isStrOf_shape (x := x) (v := v) h
    exact .inr ⟨x, t, rfl, e⟩
theorem key_ll (a b : Int) : decide ((Sum.inl a : Key) = Sum.inl b) = (a == b) := by
  by_cases e : a = b
  · subst e; simp
  · have h : ¬ (Sum.inl a : Key) = Sum.inl b := fun q => e (Sum.inl.inj q)
    rw [decide_eq_false h]
    exact (beq_eq_false_iff_ne.mpr e).symm
theorem key_rr (a b : Str) : decide ((Sum.inr a : Key) = Sum.inr b) = decide (a = b) := by
  by_cases e : a = b
  · subst e; simp
  · have h : ¬ (Sum.inr a : Key) = Sum.inr b := fun q => e (Sum.inr.inj q)
    rw [decide_eq_false h, decide_eq_false e]
theorem key_lr (a : Int) (b : Str) : decide ((Sum.inl a : Key) = Sum.inr b) = false := decide_eq_false (fun q => nomatch q)
theorem key_rl (a : Str) (b : Int) : decide ((Sum.inr a : Key) = Sum.inl b) = false := decide_eq_false (fun q => nomatch q)

noncomputable def mixKind (prog : Program) (w : World) : PySem.KeyKind prog w Key where
  is := keyIs
  hash := keyH w
  inj := fun v a b ha hb => by
    rcases keyIs_shape ha with ⟨i, t, rfl, rfl⟩ | ⟨x, t, rfl, rfl⟩
    · rcases keyIs_shape hb with ⟨j, u, rfl, e⟩ | ⟨y, u, rfl, e⟩
      · injection e with e1 _; rw [e1]
      · exact nomatch e
    · rcases keyIs_shape hb with ⟨j, u, rfl, e⟩ | ⟨y, u, rfl, e⟩
      · exact nomatch e
      · injection e with e1 _; rw [e1]
  byValue := fun k v h => by
    rcases keyIs_shape h with ⟨i, t, rfl, rfl⟩ | ⟨x, t, rfl, rfl⟩ <;> rfl
  pyHash := fun hv h => by
    rcases keyIs_shape hv with ⟨i, t, rfl, rfl⟩ | ⟨x, t, rfl, rfl⟩
    · exact wpAny_pyHash_int h
    · exact wpAny_pyHash_str h
  eqBool := fun hu hv h => by
    rcases keyIs_shape hu with ⟨i, t, rfl, rfl⟩ | ⟨x, t, rfl, rfl⟩
    · rcases keyIs_shape hv with ⟨j, u, rfl, rfl⟩ | ⟨y, u, rfl, rfl⟩
      · rw [key_ll] at h; exact wpAny_eqBool_int h
      · rw [key_lr] at h; exact SeqAt.EqAt.int_str i t y u _ _ _ _ h
    · rcases keyIs_shape hv with ⟨j, u, rfl, rfl⟩ | ⟨y, u, rfl, rfl⟩
      · rw [key_rl] at h; exact SeqAt.EqAt.str_int x t j u _ _ _ _ h
      · rw [key_rr] at h; exact wpAny_eqBool_str h
  «strs» := fun k x t v h => by
    rcases keyIs_shape h with ⟨i, u, rfl, e⟩ | ⟨y, u, rfl, e⟩
    · exact nomatch e
    · injection e with e1 _
      subst e1
      cases v <;> rfl

end L2

namespace L2
open PySem PySem.Spec PyProof.Rows

/-- a value, without the heap -/
inductive V where
  | non | bl (b : Bool) | int (i : Int) | str (x : Str) | byt (b : Array UInt8) | flt (b : UInt64) | ref (a : Addr) | ty (n : String)
  deriving DecidableEq

noncomputable def RelV : V → Value → Prop
  | .non, u => u = Value.none
  | .bl b, u => u = Value.bool b
  | .int i, u => ∃ t, u = Value.int i t
  | .str x, u => ∃ t, u = Value.str x t
  | .byt b, u => ∃ t, u = Value.bytes b t
  | .flt b, u => ∃ t, u = Value.float b t
  | .ref a, u => u = Value.ref a
  | .ty n, u => u = Value.type n

noncomputable abbrev Vals : List V → List Value → Prop := Paired RelV
theorem Vals.length {xs : List V} {us : List Value} (r : Vals xs us) : xs.length = us.length := Paired.length r
theorem Vals.get : ∀ {xs : List V} {us : List Value} {i : Nat} {x : V}, Vals xs us → xs[i]? = some x → ∃ u, us[i]? = some u ∧ RelV x u
  | _, _, _, _, .nil, e => by simp at e
  | _, _, 0, _, .cons r _, e => by simp at e; subst e; exact ⟨_, rfl, r⟩
  | _, _, i + 1, x, .cons _ t, e => by
    obtain ⟨u, h1, h2⟩ := Vals.get (i := i) (x := x) t (by simpa using e)
    exact ⟨u, by simpa using h1, h2⟩
theorem Vals.append : ∀ {xs ys : List V} {us ws : List Value}, Vals xs us → Vals ys ws → Vals (xs ++ ys) (us ++ ws)
  | _, _, _, _, .nil, s => s
  | _, _, _, _, .cons r t, s => .cons r (Vals.append t s)
theorem Vals.take : ∀ {xs : List V} {us : List Value} (n : Nat), Vals xs us → Vals (xs.take n) (us.take n)
  | _, _, 0, _ => .nil
  | _, _, _ + 1, .nil => .nil
  | _, _, n + 1, .cons r t => .cons r (Vals.take n t)
theorem Vals.drop : ∀ {xs : List V} {us : List Value} (n : Nat), Vals xs us → Vals (xs.drop n) (us.drop n)
  | _, _, 0, r => r
  | _, _, _ + 1, .nil => .nil
  | _, _, n + 1, .cons _ t => Vals.drop n t
noncomputable def RelO : Option V → Option Value → Prop
  | some v, some u => RelV v u
  | none, none => True
  | _, _ => False
noncomputable def KV {κ : Type} : List (κ × V) → List (κ × Value) → Prop := Paired fun (p : κ × V) (q : κ × Value) => p.1 = q.1 ∧ RelV p.2 q.2

/-- a key of a dict (00_mix): an int or a text -/
noncomputable def kV : Key → V
  | .inl i => .int i
  | .inr x => .str x

/-- what stands at a tracked address -/
inductive HO where
  /-- a list -/
  | lst (xs : List V)
  /-- a tuple (never changes) -/
  | tup (xs : List V)
  /-- a dict whose keys are ints and texts; one whose keys are tuples of ints and texts (the empty one is both) -/
  | dK (kvs : List (Key × V)) | dT (kvs : List (List Key × V))
  /-- a set of ints: its members, its size -/
  | set (S : Int → Bool) (n : Nat)
  /-- an instance of the class at C, its dict at dx, its attributes -/
  | ins (C dx : Addr) (fs : List (Str × V))
  /-- the dict of the instance at x -/
  | own (x : Addr)
  /-- the dict of an exception -/
  | xd (fs : List (Str × V))
  /-- a bound method, f of x -/
  | met (f x : Addr)
  /-- a range object lo, lo + 1, .. below hi -/
  | rng (lo hi : Int)
  /-- a thing that is known to the object (the script; a dict while a loop walks it): read, never written while it is so -/
  | frz (o : Obj) (u : HO)
  /-- a code object's table -/
  | tbl (ps : Array Value)
  /-- any other thing, by what is true of its one object (a def of one's own: SetO a S n := HO.ext fun h => ..) -/
  | ext (φ : Heap → Prop)

noncomputable abbrev Hp := Addr → Option HO
noncomputable def upd (H : Hp) (a : Addr) (o : HO) : Hp := fun b => if b = a then some o else H b
theorem upd_same {H : Hp} {a : Addr} {o : HO} : upd H a o a = some o := by unfold upd; rw [if_pos rfl]
theorem upd_ne {H : Hp} {a b : Addr} {o : HO} (h : b ≠ a) : upd H a o b = H b := by unfold upd; rw [if_neg h]
/-- two objects of different content stand apart -/
theorem ne_of {H : Hp} {a b : Addr} {o u : HO} (h : H a = some o) (h' : H b = some u) (d : o ≠ u) : a ≠ b := by
  intro e; subst e; rw [h] at h'; exact d (Option.some.inj h')
theorem ne_of_none {H : Hp} {a b : Addr} {o : HO} (h : H a = some o) (h' : H b = none) : a ≠ b := by
  intro e; subst e; rw [h] at h'; cases h'

section
variable (P : Program) (w : World)
noncomputable def ObjOk (H : Hp) (h : Heap) (a : Addr) : HO → Prop
  | .lst xs => xs.length ≤ sizeLine ∧ ∃ (its : List Value) (n : Nat), Vals xs its ∧ h.get? a = some { cls := .type "list", data := .seq its.toArray n }
  | .tup xs => xs.length ≤ sizeLine ∧ ∃ its : List Value, Vals xs its ∧ IsTup h a its.toArray
  | .dK kvs => kvs.length ≤ sizeLine ∧ (a == sysModules) = false ∧ ∃ vs, KV kvs vs ∧ h.DictOf (mixKind P w) a vs
  | .dT kvs => kvs.length ≤ sizeLine ∧ (a == sysModules) = false ∧ ∃ xs : List (List Key × Addr × Value),
      Paired (fun (p : List Key × V) (q : List Key × Addr × Value) => p.1 = q.1 ∧ H q.2.1 = some (.tup (p.1.map kV)) ∧ RelV p.2 q.2.2) kvs xs ∧
      ∃ o es ep, h.get? a = some o ∧ o.ExactDict ∧ o.data = .dict es ep ∧ es.toList = xs.map (entryOfKey (tupleKind (mixKind P w))) ∧ (xs.map (·.1)).Nodup
  | .set S n => h.SetOf (intKind P w) a S n
  | .ins C dx fs => H dx = some (.own a) ∧ fs.length ≤ 1000 ∧ dx ≠ a ∧ h.get? a = some (PySem.W.instObj C dx) ∧
      ∃ mA, h.Ns1 dx mA ∧ (∀ f, RelO (fs.lookup f) (mA f)) ∧ PySem.Within mA (fs.map (·.1))
  | .own _ => ∃ o, h.get? a = some o
  | .xd fs => ∃ mA, h.Ns1 a mA ∧ ∀ f, RelO (fs.lookup f) (mA f)
  | .rng lo hi => ∃ t u v, h.get? a = some { cls := .type "range", data := .fields #[.int lo t, .int hi u, .int 1 v] }
  | .frz o u => h.get? a = some o ∧ ObjOk H h a u
  | .tbl ps => h.get? a = some { cls := .none, data := .fields ps }
  | .met f x => h.get? a = some (PySem.W.methodObj (.ref f) (.ref x))
  | .ext φ => φ h ∧ (∃ o, h.get? a = some o) ∧ ∀ h1 h2 : Heap, φ h1 → (∀ o, h1.get? a = some o → h2.get? a = some o) → φ h2
/-- the abstract heap is held -/
noncomputable def HOk (H : Hp) (h : Heap) : Prop := ∀ a o, H a = some o → ObjOk P w H h a o
end

section
variable {P : Program} {w : World} {H H' : Hp} {h h' : Heap} {a : Addr} {o : HO}
theorem ObjOk.lt (x : ObjOk P w H h a o) : a < h.objs.size := by
  cases o with
  | lst xs => obtain ⟨_, _, _, _, e⟩ := x; exact Heap.lt_size e
  | tup xs => obtain ⟨_, _, _, p⟩ := x; exact p.lt
  | dK kvs => obtain ⟨_, _, _, _, o, _, _, e, _⟩ := x; exact Heap.lt_size e
  | dT kvs => obtain ⟨_, _, _, _, o, _, _, e, _⟩ := x; exact Heap.lt_size e
  | set S n => obtain ⟨o, _, _, _, e, _⟩ := x; exact Heap.lt_size e
  | ins C dx fs => obtain ⟨_, _, _, e, _⟩ := x; exact Heap.lt_size e
  | own y => obtain ⟨_, e⟩ := x; exact Heap.lt_size e
  | xd fs => obtain ⟨_, ⟨_, _, _, e, _⟩, _⟩ := x; exact Heap.lt_size e
  | rng lo hi => obtain ⟨_, _, _, e⟩ := x; exact Heap.lt_size e
  | frz ob u => obtain ⟨e, _⟩ := x; exact Heap.lt_size e
  | tbl ps => exact Heap.lt_size (show h.get? a = some _ from x)
  | met f y => exact Heap.lt_size (show h.get? a = some _ from x)
  | ext φ => obtain ⟨_, ⟨_, e⟩, _⟩ := x; exact Heap.lt_size e
theorem Paired.mapP {α β : Type} {F G : α → β → Prop} : ∀ {l₁ : List α} {l₂ : List β}, Paired F l₁ l₂ → (∀ a b, F a b → G a b) → Paired G l₁ l₂
  | _, _, .nil, _ => .nil
  | _, _, .cons r t, f => .cons (f _ _ r) (Paired.mapP t f)
/-- what an object's description leans on: its own object, its own dict, the tuples -/
theorem ObjOk.stay (x : ObjOk P w H h a o) (k : ∀ b u, (b = a ∨ H b = some (.own a)) → h.get? b = some u → h'.get? b = some u)
    (ho : ∀ b, H b = some (.own a) → H' b = some (.own a)) (ht : ∀ b xs, H b = some (.tup xs) → H' b = some (.tup xs)) : ObjOk P w H' h' a o := by
  induction o with
  | lst xs => obtain ⟨z, its, n, r, e⟩ := x; exact ⟨z, its, n, r, k _ _ (.inl rfl) e⟩
  | tup xs => obtain ⟨z, its, r, ob, e, c⟩ := x; exact ⟨z, its, r, ob, k _ _ (.inl rfl) e, c⟩
  | dK kvs => obtain ⟨z, y, vs, r, ob, es, ep, e, c⟩ := x; exact ⟨z, y, vs, r, ob, es, ep, k _ _ (.inl rfl) e, c⟩
  | dT kvs =>
    obtain ⟨z, y, xs, r, ob, es, ep, e, c⟩ := x
    exact ⟨z, y, xs, Paired.mapP r fun p q z => ⟨z.1, ht _ _ z.2.1, z.2.2⟩, ob, es, ep, k _ _ (.inl rfl) e, c⟩
  | set S n => obtain ⟨ob, es, ep, t, e, c⟩ := x; exact ⟨ob, es, ep, t, k _ _ (.inl rfl) e, c⟩
  | ins C dx fs =>
    obtain ⟨d, z, ne, e, mA, ⟨od, es, ep, e2, c⟩, r⟩ := x
    exact ⟨ho _ d, z, ne, k _ _ (.inl rfl) e, mA, ⟨od, es, ep, k _ _ (.inr d) e2, c⟩, r⟩
  | own y => obtain ⟨ob, e⟩ := x; exact ⟨ob, k _ _ (.inl rfl) e⟩
  | xd fs => obtain ⟨mA, ⟨od, es, ep, e, c⟩, r⟩ := x; exact ⟨mA, ⟨od, es, ep, k _ _ (.inl rfl) e, c⟩, r⟩
  | rng lo hi => obtain ⟨t, u, v, e⟩ := x; exact ⟨t, u, v, k _ _ (.inl rfl) e⟩
  | frz ob u ih => obtain ⟨e, q⟩ := x; exact ⟨k _ _ (.inl rfl) e, ih q⟩
  | tbl ps =>
    have e : h.get? a = some { cls := .none, data := .fields ps } := x
    show h'.get? a = some { cls := .none, data := .fields ps }
    exact k a _ (.inl rfl) e
  | met f y =>
    have e : h.get? a = some (PySem.W.methodObj (.ref f) (.ref y)) := x
    show h'.get? a = some (PySem.W.methodObj (.ref f) (.ref y))
    exact k a _ (.inl rfl) e
  | ext φ => obtain ⟨p, ⟨o, e⟩, st⟩ := x; exact ⟨st _ _ p fun o q => k _ _ (.inl rfl) q, ⟨o, k _ _ (.inl rfl) e⟩, st⟩
theorem HOk.lt (x : HOk P w H h) (e : H a = some o) : a < h.objs.size := (x a o e).lt
theorem HOk.fresh (x : HOk P w H h) (e : h.objs.size ≤ a) : H a = none := by
  cases q : H a with
  | none => rfl
  | some u => exact absurd (Nat.lt_of_lt_of_le (x.lt q) e) (Nat.lt_irrefl _)
/-- every object of the heap is kept -/
theorem HOk.kept (x : HOk P w H h) (k : ∀ b u, h.get? b = some u → h'.get? b = some u) : HOk P w H h' := fun a o e =>
  (x a o e).stay (fun b u _ q => k b u q) (fun _ q => q) fun _ _ q => q
/-- a new object is laid and tracked -/
theorem HOk.laid (x : HOk P w H h) (k : ∀ b u, h.get? b = some u → h'.get? b = some u) (hp : h.objs.size ≤ a) (new : ObjOk P w (upd H a o) h' a o) : HOk P w (upd H a o) h' := fun b u e => by
  have hn := x.fresh hp
  by_cases hb : b = a
  · subst hb; rw [upd_same] at e; cases e; exact new
  · rw [upd_ne hb] at e
    exact (x b u e).stay (fun c v _ q => k c v q) (fun c q => by rw [upd_ne (ne_of_none q hn)]; exact q) fun c xs q => by rw [upd_ne (ne_of_none q hn)]; exact q
end

/-- what may be read as u: it is u, or a known u -/
noncomputable def Rd (H : Hp) (a : Addr) (u : HO) : Prop := H a = some u ∨ ∃ o, H a = some (.frz o u)
theorem Rd.ok {P : Program} {w : World} {H : Hp} {h : Heap} {a : Addr} {u : HO} (r : Rd H a u) (x : HOk P w H h) : ObjOk P w H h a u := by
  rcases r with r | ⟨o, r⟩
  · exact x a u r
  · obtain ⟨_, q⟩ := x a _ r
    exact q
/-- what may be written -/
noncomputable def Mut : Option HO → Prop
  | some (.lst _) => True
  | some (.dK _) => True
  | some (.dT _) => True
  | some (.set _ _) => True
  | some (.ins _ _ _) => True
  | some (.ext _) => True
  | _ => False
section
variable {P : Program} {w : World} {H : Hp} {h h' : Heap} {x e : Addr} {o' : HO}
/-- the object at e is changed: x itself, or the dict of the instance x -/
theorem HOk.write (ok : HOk P w H h) (mu : Mut (H x)) (he : e = x ∨ H e = some (.own x)) (k : ∀ b u, b ≠ e → h.get? b = some u → h'.get? b = some u) (heo : ∃ u, h'.get? e = some u)
    (new : ObjOk P w (upd H x o') h' x o') : HOk P w (upd H x o') h' := fun b u q => by
  have nown : ∀ c y, H c = some (.own y) → c ≠ x := fun c y r z => by subst z; rw [r] at mu; exact mu
  have ntup : ∀ c xs, H c = some (.tup xs) → c ≠ x := fun c xs r z => by subst z; rw [r] at mu; exact mu
  by_cases hb : b = x
  · subst hb; rw [upd_same] at q; cases q; exact new
  · rw [upd_ne hb] at q
    by_cases hbe : b = e
    · have q' : H b = some (.own x) := by
        rcases he with z | z
        · exact absurd (hbe.trans z) hb
        · rw [hbe]; exact z
      rw [q] at q'; cases q'
      obtain ⟨v, hv⟩ := heo
      exact ⟨v, by rw [hbe]; exact hv⟩
    · refine (ok b u q).stay (fun c v hc r => k c v ?_ r) (fun c r => by rw [upd_ne (nown c b r)]; exact r) fun c xs r => by rw [upd_ne (ntup c xs r)]; exact r
      rcases hc with rfl | hc
      · exact hbe
      · rintro rfl
        rcases he with z | z
        · exact nown c b hc z
        · rw [hc] at z; cases z; exact hb rfl
end

/-! ### kept unless tracked; of the frames at fs (the callers') the slots may change (an exception that passes writes there); of the records at ex (iterators) nothing is said -/
structure Un (fs ex : List Addr) (H H' : Hp) (h h' : Heap) : Prop where
  keep : ∀ b o, h.get? b = some o → H b = none → b ∉ fs → b ∉ ex → h'.get? b = some o
  slot : ∀ b o, h.get? b = some o → H b = none → b ∈ fs → b ∉ ex → ∃ sl, h'.get? b = some { o with slots := sl }
  free : ∀ b o, h.get? b = some o → H b = none → b ∉ ex → H' b = none
  there : ∀ b o, h.get? b = some o → b ∉ ex → ∃ o', h'.get? b = some o'
  tups : ∀ b xs, H b = some (.tup xs) → H' b = some (.tup xs)
  frzs : ∀ b o u, H b = some (.frz o u) → H' b = some (.frz o u)
  tbls : ∀ b ps, H b = some (.tbl ps) → ∃ more, H' b = some (.tbl (ps ++ more))
section
variable {fs fs' ex ex' : List Addr} {H H1 H2 : Hp} {h h1 h2 h' : Heap} {a x e : Addr} {o : HO}
theorem Un.any (u : Un fs ex H H1 h h1) {b : Addr} {ob : Obj} (q : h.get? b = some ob) (n : H b = none) (hx : b ∉ ex) : ∃ sl, h1.get? b = some { ob with slots := sl } := by
  by_cases hb : b ∈ fs
  · exact u.slot b ob q n hb hx
  · exact ⟨ob.slots, u.keep b ob q n hb hx⟩
theorem Un.kept (k : ∀ b u, h.get? b = some u → h'.get? b = some u) : Un fs ex H H h h' :=
  ⟨fun b ob q _ _ _ => k b ob q, fun b ob q _ _ _ => ⟨ob.slots, k b ob q⟩, fun _ _ _ n _ => n, fun b ob q _ => ⟨ob, k b ob q⟩, fun _ _ q => q, fun _ _ _ q => q, fun _ ps q => ⟨#[], by rw [q]; simp⟩⟩
theorem Un.refl : Un fs ex H H h h := Un.kept fun _ _ q => q
theorem Un.laid (k : ∀ b u, h.get? b = some u → h'.get? b = some u) (hp : h.objs.size ≤ a) (hn : H a = none) : Un fs ex H (upd H a o) h h' where
  keep := fun b u q _ _ _ => k b u q
  slot := fun b u q _ _ _ => ⟨u.slots, k b u q⟩
  free := fun b u q n _ => by rw [upd_ne (Nat.ne_of_lt (Nat.lt_of_lt_of_le (Heap.lt_size q) hp))]; exact n
  there := fun b u q _ => ⟨u, k b u q⟩
  tups := fun b xs q => by rw [upd_ne (ne_of_none q hn)]; exact q
  frzs := fun b u xs q => by rw [upd_ne (ne_of_none q hn)]; exact q
  tbls := fun b ps q => ⟨#[], by rw [upd_ne (ne_of_none q hn), q]; simp⟩
theorem Un.write (mu : Mut (H x)) (he : e = x ∨ H e = some (.own x)) (k : ∀ b u, b ≠ e → h.get? b = some u → h'.get? b = some u) (heo : ∃ u, h'.get? e = some u) : Un fs ex H (upd H x o) h h' := by
  have hx : ∀ b, H b = none → b ≠ x := fun b n z => by subst z; rw [n] at mu; exact mu
  have hb : ∀ b, H b = none → b ≠ e := fun b n z => by
    subst z
    rcases he with r | r
    · exact hx b n r
    · rw [n] at r; cases r
  have hm : ∀ b u, H b = some u → ¬ Mut (some u) → b ≠ x := fun b u q nm z => by subst z; rw [q] at mu; exact nm mu
  refine ⟨fun b u q n _ _ => k b u (hb b n) q, fun b u q n _ _ => ⟨u.slots, k b u (hb b n) q⟩, fun b u q n _ => by rw [upd_ne (hx b n)]; exact n, fun b u q _ => ?_,
    fun b xs q => by rw [upd_ne (hm b _ q fun z => z)]; exact q, fun b u xs q => by rw [upd_ne (hm b _ q fun z => z)]; exact q, fun b ps q => ⟨#[], by rw [upd_ne (hm b _ q fun z => z), q]; simp⟩⟩
  by_cases hbe : b = e
  · subst hbe; exact heo
  · exact ⟨u, k b u hbe q⟩
end

/-! ### the heap without what is tracked -/
noncomputable def trk (h : Heap) (H : Hp) : List Addr := (List.range h.objs.size).filter fun a => (H a).isSome
noncomputable def hidT (h : Heap) (H : Hp) : Heap := PySem.W.hideAll h (trk h H)
theorem hidT_size (h : Heap) (H : Hp) : (hidT h H).objs.size = h.objs.size := PySem.W.hideAll_size _ _
theorem hidT_get {h : Heap} {H : Hp} {b : Addr} {o : Obj} (e : h.get? b = some o) (n : H b = none) : (hidT h H).get? b = some o :=
  PySem.W.hideAll_get _ e fun hm => by
    have q : (H b).isSome = true := (List.mem_filter.mp hm).2
    rw [n] at q; simp at q
theorem of_hidT {h : Heap} {H : Hp} {b : Addr} {o : Obj} (e : (hidT h H).get? b = some o) : h.get? b = some o ∧ H b = none := by
  have e' : h.get? b = some o := PySem.W.of_hideAll (trk h H) e
  refine ⟨e', ?_⟩
  cases q : H b with
  | none => rfl
  | some x =>
    have hm : b ∈ trk h H := List.mem_filter.mpr ⟨List.mem_range.mpr (Heap.lt_size e'), by simp [q]⟩
    have z : (hidT h H).get? b = none := PySem.W.hideAll_none (trk h H) hm
    rw [z] at e; cases e

/-! ### OpenK's ledger, filled with every new object but one -/
noncomputable def allNews (g h : Heap) (L : Addr) : List (Addr × Obj) := (List.range h.objs.size).filterMap fun a => if a = L ∨ (g.get? a).isSome = true then none else (h.get? a).map fun o => (a, o)
noncomputable def rest (g h : Heap) (L d : Addr) : List (Addr × Obj) := (allNews g h L).filter fun p => decide (p.1 ≠ d)
end L2

namespace L2
open PySem PySem.Spec PyProof.Rows

/-- the module's facts, over the base: the heap at the law's entry without what is tracked there -/
structure Mod (K : PySem.W.Frag) (mg : Str → Option Value) (base : Heap) : Prop where
  kin : K.In base
  glob : base.Ns mainGlobals mg
  blt : ∃ mb, base.Ns builtinsNs mb ∧ ∀ x : Str, x ≠ "__name__" → mb x = bootBuiltins x
  nolimit : base.NoLimit

/-- the context: a def's body (or a comprehension's block) running. base: fixed through the whole law; s₀, H₀: the entry; outer: the frames whose slots others may change (a def's callers); stack: all frames that run;
   ex: iterators that were made ahead of the entry and are walked here (a comprehension's); fn: the names whose cells were made at the entry (a def: all; a comprehension's block: its own); calm: not within an except suite; pn: pins that every state bears; xe: what is wanted of an exception that leaves the code -/
structure Cx where
  prog : Program
  w : World
  K : PySem.W.Frag
  mg : Str → Option Value
  base : Heap
  A : Around
  N : List Str
  s₀ : Shared
  H₀ : Hp
  env : Env
  outer : List Env
  stack : List Env
  ex : List Addr
  fn : Str → Bool
  calm : Bool
  pn : List (Addr × Obj)
  xe : Value → Shared → Prop
/-- the callers' frames -/
noncomputable def frs (l : List Env) : List Addr := l.filterMap (·.frame)
noncomputable abbrev Cx.fs (X : Cx) : List Addr := frs X.outer

noncomputable def Vis (sc : Scope) (x : Str) : Prop := sc.names.lookup x = some .local ∨ sc.names.lookup x = some .cell ∨ sc.names.lookup x = some .free
noncomputable def Loc (sc : Scope) (x : Str) : Prop := sc.names.lookup x = some .local ∨ sc.names.lookup x = some .cell
noncomputable def Look (env : Env) (h : Heap) (m : Str → Option Value) (x : Str) (u : Value) : Prop :=
  (env.kindOf x = some .local ∧ m x = some u) ∨ ((env.kindOf x = some .cell ∨ env.kindOf x = some .free) ∧ ∃ c, env.cells.lookup x = some c ∧ h.IsCell c (some u))

structure Cx.Ok (X : Cx) : Prop where
  mod : Mod X.K X.mg X.base
  kind : X.env.scope.kind = .function
  glob : X.env.globals = mainGlobals
  blt : X.env.builtins = builtinsNs
  above : X.s₀.heap.objs.size ≤ X.env.locals
  inj : ∀ x y c, X.env.cells.lookup x = some c → X.env.cells.lookup y = some c → x = y
  has : ∀ x, (X.env.kindOf x = some .cell ∨ X.env.kindOf x = some .free) → ∃ c, X.env.cells.lookup x = some c
  cab : ∀ x c, X.fn x = true → X.env.cells.lookup x = some c → X.s₀.heap.objs.size ≤ c
  hd : X.calm = true → X.A.handled = none
  frames : X.A.frames = some X.stack
  stk : X.stack = X.outer ∨ (X.stack = X.env :: X.outer ∧ X.env.frame = some X.env.locals)
  exf : ∀ b ∈ X.ex, b ≠ X.env.locals ∧ ∀ x c, X.env.cells.lookup x = some c → c ≠ b
  bs : ∀ b o, X.base.get? b = some o → X.s₀.heap.get? b = some o ∧ X.H₀ b = none
  bsz : X.base.objs.size ≤ X.s₀.heap.objs.size
  noex : ∀ b o, X.base.get? b = some o → b ∉ X.ex
  exfs : ∀ b ∈ X.ex, b ∉ X.fs
  funs : X.s₀.heap.FunFrames X.base X.outer
  frf : ∀ b ∈ X.fs, X.H₀ b = none

structure Inv (X : Cx) (pins : List (Addr × Obj)) (σ : List (Option V)) (H : Hp) (s : Shared) : Prop where
  ok : X.Ok
  os : s.os = X.s₀.os
  bare : AllBare s.gens
  base : Un X.fs X.ex X.H₀ H X.s₀.heap s.heap
  loc : ∃ m, s.heap.Ns X.env.locals m ∧ ∀ (i : Nat) (x : Str) (v : V), X.N[i]? = some x → σ[i]? = some (some v) → Vis X.env.scope x → ∃ u, RelV v u ∧ Look X.env s.heap m x u
  cell : ∀ x c, X.env.cells.lookup x = some c → ∃ v, s.heap.IsCell c v
  free : H X.env.locals = none
  freeC : ∀ x c, X.env.cells.lookup x = some c → H c = none
  pin : ∀ p ∈ X.pn ++ pins, s.heap.get? p.1 = some p.2 ∧ H p.1 = none ∧ p.1 ≠ X.env.locals ∧ p.1 ∉ X.fs ∧ ∀ v, p.2.data ≠ .cell v
  hok : HOk X.prog X.w H s.heap
  len : σ.length = X.N.length

section
variable {X : Cx} {pins : List (Addr × Obj)} {σ : List (Option V)} {H H' : Hp} {s : Shared} {h' : Heap}

theorem Cx.Ok.nofr (ok : X.Ok) {b : Addr} {o : Obj} (e : X.base.get? b = some o) : b ∉ X.fs := fun hb => by
  have := (ok.funs.mem hb).1
  rw [e] at this; cases this
theorem Inv.bs (I : Inv X pins σ H s) : ∀ b o, X.base.get? b = some o → s.heap.get? b = some o ∧ H b = none := fun b o e =>
  ⟨I.base.keep b o (I.ok.bs b o e).1 (I.ok.bs b o e).2 (I.ok.nofr e) (I.ok.noex b o e), I.base.free b o (I.ok.bs b o e).1 (I.ok.bs b o e).2 (I.ok.noex b o e)⟩
theorem Inv.bk (I : Inv X pins σ H s) : ∀ b o, X.base.get? b = some o → s.heap.get? b = some o := fun b o e => (I.bs b o e).1
theorem Inv.mod (I : Inv X pins σ H s) : Mod X.K X.mg X.base := I.ok.mod
theorem Inv.kIn (I : Inv X pins σ H s) : X.K.In s.heap := I.ok.mod.kin.keeps I.bk
theorem Inv.lt (I : Inv X pins σ H s) : X.env.locals < s.heap.objs.size := let ⟨_, hn, _⟩ := I.loc; hn.lt
theorem Inv.sz (I : Inv X pins σ H s) : X.s₀.heap.objs.size ≤ s.heap.objs.size := Nat.le_trans I.ok.above (Nat.le_of_lt I.lt)
theorem Inv.nofs (I : Inv X pins σ H s) {a : Addr} (h : s.heap.objs.size ≤ a) : a ∉ X.fs := fun hb => by
  obtain ⟨_, o, ho, _⟩ := I.ok.funs.mem hb
  exact absurd (Nat.lt_of_lt_of_le (Heap.lt_size ho) (Nat.le_trans I.sz h)) (Nat.lt_irrefl _)
theorem Inv.cne (I : Inv X pins σ H s) : ∀ x c, X.env.cells.lookup x = some c → c ≠ X.env.locals := fun x c e z => by
  obtain ⟨v, o, ho, hd⟩ := I.cell x c e
  obtain ⟨m, ⟨o', es, ep, ho', hd', _⟩, _⟩ := I.loc
  rw [z, ho'] at ho; cases ho; rw [hd'] at hd; cases hd
theorem Inv.funs (I : Inv X pins σ H s) : s.heap.FunFrames X.base X.outer := by
  have all : ∀ (l : List Env), (∀ b ∈ frs l, b ∈ X.fs) → X.s₀.heap.FunFrames X.base l → s.heap.FunFrames X.base l := by
    intro l
    induction l with
    | nil => intro _ _; trivial
    | cons env r ih =>
      intro hs hl
      obtain ⟨hk, ⟨L, o, hf, hn, ho, hd⟩, hr⟩ := hl
      have hL : L ∈ X.fs := hs L (by unfold frs; rw [List.filterMap_cons, hf]; exact List.mem_cons_self)
      obtain ⟨sl, e⟩ := I.base.slot L o ho (I.ok.frf L hL) hL fun z => I.ok.exfs L z hL
      exact ⟨hk, ⟨L, _, hf, hn, e, hd⟩, ih (fun b hb => hs b (by unfold frs; rw [List.filterMap_cons, hf]; exact List.mem_cons_of_mem _ hb)) hr⟩
  exact all X.outer (fun _ hb => hb) I.ok.funs

/-- the frames that run, for a call -/
theorem Inv.stack (I : Inv X pins σ H s) : s.heap.FunFrames X.base X.stack := by
  rcases I.ok.stk with e | ⟨e, hf⟩
  · rw [e]; exact I.funs
  · rw [e]
    obtain ⟨m, hn, _⟩ := I.loc
    refine .cons (by rw [I.ok.kind]; decide) hf hn ?_ I.funs
    exact Heap.get?_none_of_le (Nat.le_trans I.ok.bsz I.ok.above)
theorem Inv.stkSub (I : Inv X pins σ H s) : ∀ b ∈ frs X.stack, b ∈ X.env.locals :: X.fs := fun b hb => by
  rcases I.ok.stk with e | ⟨e, hf⟩
  · rw [e] at hb; exact List.mem_cons_of_mem _ hb
  · rw [e] at hb
    unfold frs at hb
    rw [List.filterMap_cons, hf] at hb
    exact hb
theorem Inv.stkFree (I : Inv X pins σ H s) : ∀ b ∈ frs X.stack, H b = none := fun b hb => by
  rcases List.mem_cons.mp (I.stkSub b hb) with e | hb
  · rw [e]; exact I.free
  · obtain ⟨_, o, ho, _⟩ := I.ok.funs.mem hb
    exact I.base.free b o ho (I.ok.frf b hb) fun z => I.ok.exfs b z hb

/-- THE STEP: the untracked objects but the frame and the records at ch are kept (the callers' frames up to slots), the frame's map is kept, the new abstract heap is held -/
theorem Inv.step {g' : Array GenState} {t' : Nat} {d' : Drawn} {ch : List Addr} (I : Inv X pins σ H s)
    (hch : ∀ b ∈ ch, (b ∈ X.ex ∨ X.s₀.heap.objs.size ≤ b) ∧ b ≠ X.env.locals ∧ (∀ x c, X.env.cells.lookup x = some c → c ≠ b) ∧ ∀ p ∈ X.pn ++ pins, p.1 ≠ b)
    (keep : ∀ b o, b ≠ X.env.locals → b ∉ X.fs → b ∉ ch → s.heap.get? b = some o → H b = none → h'.get? b = some o)
    (slot : ∀ b o, b ≠ X.env.locals → b ∈ X.fs → b ∉ ch → s.heap.get? b = some o → H b = none → ∃ sl, h'.get? b = some { o with slots := sl }) (free : ∀ b o, b ∉ ch → s.heap.get? b = some o → H b = none → H' b = none)
    (there : ∀ b o, b ∉ ch → s.heap.get? b = some o → ∃ o', h'.get? b = some o')
    (tups : ∀ b xs, H b = some (.tup xs) → H' b = some (.tup xs)) (frzs : ∀ b o u, H b = some (.frz o u) → H' b = some (.frz o u)) (tbls : ∀ b ps, H b = some (.tbl ps) → ∃ more, H' b = some (.tbl (ps ++ more)))
    (ns : ∀ m, s.heap.Ns X.env.locals m → h'.Ns X.env.locals m) (hok : HOk X.prog X.w H' h') (hg : AllBare g') :
    Inv X pins σ H' { s with heap := h', gens := g', drawn := d', toks := t' } := by
  have neL : ∀ b o, X.s₀.heap.get? b = some o → b ≠ X.env.locals := fun b o e => Nat.ne_of_lt (Nat.lt_of_lt_of_le (Heap.lt_size e) I.ok.above)
  have neC : ∀ b o, X.s₀.heap.get? b = some o → b ∉ X.ex → b ∉ ch := fun b o e hx hb => by
    rcases (hch b hb).1 with z | z
    · exact hx z
    · exact absurd (Nat.lt_of_lt_of_le (Heap.lt_size e) z) (Nat.lt_irrefl _)
  have cellK : ∀ x c, X.env.cells.lookup x = some c → ∀ v, s.heap.IsCell c v → h'.IsCell c v := fun x c e v ⟨o, ho, hd⟩ => by
    have nch : c ∉ ch := fun z => (hch c z).2.2.1 x c e rfl
    by_cases hc : c ∈ X.fs
    · obtain ⟨sl, q⟩ := slot c o (I.cne x c e) hc nch ho (I.freeC x c e)
      exact ⟨_, q, hd⟩
    · exact ⟨o, keep c o (I.cne x c e) hc nch ho (I.freeC x c e), hd⟩
  refine ⟨I.ok, I.os, hg, ⟨fun b o e n hb hx => ?_, fun b o e n hb hx => ?_, fun b o e n hx => ?_, fun b o e hx => ?_, fun b xs e => tups b xs (I.base.tups b xs e), fun b o xs e => frzs b o xs (I.base.frzs b o xs e), fun b ps e => ?_⟩, ?_, fun x c e => ?_, ?_, fun x c e => ?_, fun p hp => ?_, hok, I.len⟩
  · exact keep b o (neL b o e) hb (neC b o e hx) (I.base.keep b o e n hb hx) (I.base.free b o e n hx)
  · obtain ⟨sl, e1⟩ := I.base.slot b o e n hb hx
    obtain ⟨sl', e2⟩ := slot b _ (neL b o e) hb (neC b o e hx) e1 (I.base.free b o e n hx)
    exact ⟨sl', e2⟩
  · obtain ⟨o', e1⟩ := I.base.there b o e hx
    exact free b o' (neC b o e hx) e1 (I.base.free b o e n hx)
  · obtain ⟨o', e1⟩ := I.base.there b o e hx
    exact there b o' (neC b o e hx) e1
  · obtain ⟨m1, e1⟩ := I.base.tbls b ps e
    obtain ⟨m2, e2⟩ := tbls b _ e1
    exact ⟨m1 ++ m2, by rw [e2, Array.append_assoc]⟩
  · obtain ⟨m, hn, hl⟩ := I.loc
    refine ⟨m, ns m hn, fun i x v e1 e2 e3 => ?_⟩
    obtain ⟨u, r, l⟩ := hl i x v e1 e2 e3
    refine ⟨u, r, ?_⟩
    rcases l with l | ⟨k, c, e, z⟩
    · exact .inl l
    · exact .inr ⟨k, c, e, cellK x c e _ z⟩
  · obtain ⟨v, z⟩ := I.cell x c e
    exact ⟨v, cellK x c e v z⟩
  · obtain ⟨m, ⟨o, _, _, ho, _⟩, _⟩ := I.loc
    exact free _ o (fun z => (hch _ z).2.1 rfl) ho I.free
  · obtain ⟨v, o, ho, hd⟩ := I.cell x c e
    exact free c o (fun z => (hch c z).2.2.1 x c e rfl) ho (I.freeC x c e)
  · obtain ⟨e, n, ne, nf, d⟩ := I.pin p hp
    have nch : p.1 ∉ ch := fun z => (hch p.1 z).2.2.2 p hp rfl
    exact ⟨keep p.1 p.2 ne nf nch e n, free p.1 p.2 nch e n, ne, nf, d⟩
/-- .. where the frame's own object is kept too -/
theorem Inv.un {t' : Nat} (I : Inv X pins σ H s) (u : Un X.fs [] H H' s.heap h') (hok : HOk X.prog X.w H' h') : Inv X pins σ H' { s with heap := h', toks := t' } := by
  obtain ⟨m, ⟨o, es, ep, ho, r⟩, _⟩ := id I.loc
  obtain ⟨sl, hL⟩ := u.any ho I.free (by simp)
  exact I.step (g' := s.gens) (d' := s.drawn) (ch := []) (fun _ z => nomatch z) (fun b o _ hb _ e n => u.keep b o e n hb (by simp)) (fun b o _ hb _ e n => u.slot b o e n hb (by simp)) (fun b o _ e n => u.free b o e n (by simp)) (fun b o _ e => u.there b o e (by simp)) u.tups u.frzs u.tbls (fun m' hm => by
    obtain ⟨o', es', ep', ho', r'⟩ := hm
    rw [ho] at ho'; cases ho'
    exact ⟨_, es', ep', hL, r'⟩) hok I.bare
/-- behind a call (or a comprehension's block): the slots of this frame may have changed too, the records at ch may have turned -/
theorem Inv.call {g' : Array GenState} {t' : Nat} {d' : Drawn} {ch : List Addr} (I : Inv X pins σ H s) (u : Un (frs X.stack) ch H H' s.heap h') (hok : HOk X.prog X.w H' h') (hg : AllBare g')
    (hch : ∀ b ∈ ch, (b ∈ X.ex ∨ X.s₀.heap.objs.size ≤ b) ∧ b ≠ X.env.locals ∧ (∀ x c, X.env.cells.lookup x = some c → c ≠ b) ∧ ∀ p ∈ X.pn ++ pins, p.1 ≠ b) :
    Inv X pins σ H' { s with heap := h', gens := g', drawn := d', toks := t' } := by
  obtain ⟨m, ⟨o, es, ep, ho, r⟩, _⟩ := id I.loc
  obtain ⟨sl, hL⟩ := u.any ho I.free fun z => (hch _ z).2.1 rfl
  exact I.step (ch := ch) hch (fun b o hL hb hc e n => u.keep b o e n (fun z => (List.mem_cons.mp (I.stkSub b z)).elim hL hb) hc) (fun b o _ _ hc e n => u.any e n hc) (fun b o hc e n => u.free b o e n hc) (fun b o hc e => u.there b o e hc) u.tups u.frzs u.tbls (fun m' hm => by
    obtain ⟨o', es', ep', ho', r'⟩ := hm
    rw [ho] at ho'; cases ho'
    exact ⟨_, es', ep', hL, r'⟩) hok hg
/-- an untracked record of ours (an iterator) has turned -/
theorem Inv.turned {t' : Nat} {it : Addr} (I : Inv X pins σ H s) (k : ∀ b o, b ≠ it → s.heap.get? b = some o → h'.get? b = some o) (hn : H it = none) (hL : it ≠ X.env.locals)
    (h1 : it ∈ X.ex ∨ X.s₀.heap.objs.size ≤ it) (h2 : ∀ x c, X.env.cells.lookup x = some c → c ≠ it) (h3 : ∀ p ∈ X.pn ++ pins, p.1 ≠ it) : Inv X pins σ H { s with heap := h', toks := t' } := by
  have nit : ∀ b u, H b = some u → b ≠ it := fun b u e z => by rw [z, hn] at e; cases e
  refine I.step (g' := s.gens) (d' := s.drawn) (ch := [it]) (fun b hb => ?_) (fun b o _ _ hc e _ => k b o (fun z => hc (by simp [z])) e) (fun b o _ _ hc e _ => ⟨o.slots, k b o (fun z => hc (by simp [z])) e⟩) (fun _ _ _ _ n => n)
    (fun b o hc e => ⟨o, k b o (fun z => hc (by simp [z])) e⟩) (fun _ _ e => e) (fun _ _ _ e => e) (fun b ps e => ⟨#[], by rw [e]; simp⟩) (fun m hm => ?_) (fun b u e => ?_) I.bare
  · have e : b = it := by simpa using hb
    subst e
    exact ⟨h1, hL, h2, h3⟩
  · obtain ⟨o, es, ep, ho, r⟩ := hm
    exact ⟨o, es, ep, k _ o (Ne.symm hL) ho, r⟩
  · refine (I.hok b u e).stay (fun c v hc q => k c v ?_ q) (fun _ q => q) fun _ _ q => q
    rcases hc with z | z
    · rw [z]; exact nit b u e
    · exact nit c _ z
theorem Inv.tok (I : Inv X pins σ H s) (t : Nat) : Inv X pins σ H { s with toks := t } := I.un (h' := s.heap) (t' := t) Un.refl I.hok
/-- all objects kept -/
theorem Inv.kept {t' : Nat} (I : Inv X pins σ H s) (k : ∀ b u, s.heap.get? b = some u → h'.get? b = some u) : Inv X pins σ H { s with heap := h', toks := t' } := I.un (Un.kept k) (I.hok.kept k)
/-- a new object laid and tracked -/
theorem Inv.laid {a : Addr} {o : HO} {t' : Nat} (I : Inv X pins σ H s) (k : ∀ b u, s.heap.get? b = some u → h'.get? b = some u) (hp : s.heap.objs.size ≤ a) (new : ObjOk X.prog X.w (upd H a o) h' a o) :
    Inv X pins σ (upd H a o) { s with heap := h', toks := t' } := I.un (Un.laid k hp (I.hok.fresh hp)) (I.hok.laid k hp new)
/-- an object written -/
theorem Inv.write {x e : Addr} {o : HO} {t' : Nat} (I : Inv X pins σ H s) (mu : Mut (H x)) (he : e = x ∨ H e = some (.own x)) (k : ∀ b u, b ≠ e → s.heap.get? b = some u → h'.get? b = some u) (heo : ∃ u, h'.get? e = some u)
    (new : ObjOk X.prog X.w (upd H x o) h' x o) : Inv X pins σ (upd H x o) { s with heap := h', toks := t' } := I.un (Un.write mu he k heo) (I.hok.write mu he k heo new)
theorem Inv.pins_of {pins' : List (Addr × Obj)} (I : Inv X pins σ H s) (h : ∀ p ∈ pins', s.heap.get? p.1 = some p.2 ∧ H p.1 = none ∧ p.1 ≠ X.env.locals ∧ p.1 ∉ X.fs ∧ ∀ v, p.2.data ≠ .cell v) : Inv X pins' σ H s :=
  ⟨I.ok, I.os, I.bare, I.base, I.loc, I.cell, I.free, I.freeC, fun p hp => (List.mem_append.mp hp).elim (fun z => I.pin p (List.mem_append_left _ z)) (h p), I.hok, I.len⟩

theorem nodup_ix {N : List Str} (hN : N.Nodup) {i j : Nat} {x : Str} (a : N[i]? = some x) (b : N[j]? = some x) : i = j := by
  obtain ⟨h1, e1⟩ := List.getElem?_eq_some_iff.mp a
  obtain ⟨h2, e2⟩ := List.getElem?_eq_some_iff.mp b
  exact (List.getElem_inj hN).mp (e1.trans e2.symm)

/-- a name is stored; what changed -/
theorem store_ok2 {M : Model} {A : Around} {E : Value → Shared → Prop} {i : Nat} {x : Str} {v : V} {u : Value} {Q : Unit → Shared → Prop} (I : Inv X pins σ H s) (hN : X.N.Nodup) (hi : X.N[i]? = some x) (hx : Loc X.env.scope x) (r : RelV v u)
    (h : ∀ s', Inv X pins (σ.set i (some v)) H s' → (∃ a, Heap.SameBut a s.heap s'.heap ∧ (a = X.env.locals ∨ X.env.cells.lookup x = some a)) → Q () s') (hf : X.fn x = true ∨ X.env.scope.names.lookup x = some .local := by first | exact .inl rfl | exact .inr rfl | assumption) : wpAny M A (storeName X.env x u) Q E s := by
  obtain ⟨m, hn, hl⟩ := id I.loc
  have hcls : (X.env.scope.kind == .class || (X.env.scope.kind == .module && X.env.locals != X.env.globals)) = false := by rw [I.ok.kind]; rfl
  have hiσ : i < σ.length := by rw [I.len]; exact (List.getElem?_eq_some_iff.mp hi).1
  have cne := I.cne
  have tracked : ∀ {a : Addr} {h' : Heap}, (∃ o, s.heap.get? a = some o ∧ H a = none) → Heap.SameBut a s.heap h' → HOk X.prog X.w H h' := fun {a h'} ha hs b ob e => by
    obtain ⟨_, _, hfree⟩ := ha
    refine (I.hok b ob e).stay (fun c w' hc q => (hs.2 c ?_).trans q) (fun _ q => q) fun _ _ q => q
    rintro rfl
    rcases hc with rfl | hc
    · rw [hfree] at e; cases e
    · rw [hfree] at hc; cases hc
  rcases hx with hk | hk
  · refine wpAny_storeName_local hk hn (fun h' hn' hs => ?_) hcls
    obtain ⟨oL, _, _, hoL, _⟩ := id hn
    refine h _ ⟨I.ok, I.os, I.bare, ⟨fun b o e n hb hx => ?_, fun b o e n hb hx => ?_, I.base.free, fun b o e hx => ?_, I.base.tups, I.base.frzs, I.base.tbls⟩, ⟨_, hn', fun j y v' e1 e2 e3 => ?_⟩, fun y c e => ?_, I.free, I.freeC, fun p hp => ?_, tracked ⟨oL, hoL, I.free⟩ hs, by simpa using I.len⟩ ⟨_, hs, .inl rfl⟩
    · exact (hs.2 b (Nat.ne_of_lt (Nat.lt_of_lt_of_le (Heap.lt_size e) I.ok.above))).trans (I.base.keep b o e n hb hx)
    · obtain ⟨sl, e1⟩ := I.base.slot b o e n hb hx
      exact ⟨sl, (hs.2 b (Nat.ne_of_lt (Nat.lt_of_lt_of_le (Heap.lt_size e) I.ok.above))).trans e1⟩
    · obtain ⟨o', e1⟩ := I.base.there b o e hx
      exact ⟨o', (hs.2 b (Nat.ne_of_lt (Nat.lt_of_lt_of_le (Heap.lt_size e) I.ok.above))).trans e1⟩
    · by_cases hj : j = i
      · subst hj
        rw [hi] at e1; cases e1
        rw [List.getElem?_set_self hiσ] at e2
        cases e2
        exact ⟨u, r, .inl ⟨hk, by simp⟩⟩
      · rw [List.getElem?_set_ne (Ne.symm hj)] at e2
        obtain ⟨u', r', q⟩ := hl j y v' e1 e2 e3
        refine ⟨u', r', ?_⟩
        rcases q with ⟨k, e⟩ | ⟨k, c, e, z⟩
        · refine .inl ⟨k, ?_⟩
          have : y ≠ x := fun e => hj (nodup_ix hN e1 (e ▸ hi))
          simp [this, e]
        · exact .inr ⟨k, c, e, z.sameBut hs (cne y c e)⟩
    · obtain ⟨w', z⟩ := I.cell y c e
      exact ⟨w', z.sameBut hs (cne y c e)⟩
    · obtain ⟨e, n, ne, nf, d⟩ := I.pin p hp
      exact ⟨(hs.2 p.1 ne).trans e, n, ne, nf, d⟩
  · have hfn : X.fn x = true := by
      rcases hf with z | z
      · exact z
      · rw [z] at hk; cases hk
    obtain ⟨c, hc⟩ := I.ok.has x (.inl hk)
    obtain ⟨w', z⟩ := I.cell x c hc
    refine wpAny_storeName_cell I.ok.kind hk hc z (fun h' hc' hs => ?_)
    obtain ⟨oc, hoc, hocd⟩ := id z
    refine h { s with heap := h' } ⟨I.ok, I.os, I.bare, ⟨fun b o e n hb hx => ?_, fun b o e n hb hx => ?_, I.base.free, fun b o e hx => ?_, I.base.tups, I.base.frzs, I.base.tbls⟩, ⟨m, hn.sameBut hs (Ne.symm (cne x c hc)), fun j y v' e1 e2 e3 => ?_⟩, fun y c' e => ?_, I.free, I.freeC, fun p hp => ?_, tracked ⟨oc, hoc, I.freeC x c hc⟩ hs, by simpa using I.len⟩ ⟨c, hs, .inr hc⟩
    · exact (hs.2 b (Nat.ne_of_lt (Nat.lt_of_lt_of_le (Heap.lt_size e) (I.ok.cab x c hfn hc)))).trans (I.base.keep b o e n hb hx)
    · obtain ⟨sl, e1⟩ := I.base.slot b o e n hb hx
      exact ⟨sl, (hs.2 b (Nat.ne_of_lt (Nat.lt_of_lt_of_le (Heap.lt_size e) (I.ok.cab x c hfn hc)))).trans e1⟩
    · obtain ⟨o', e1⟩ := I.base.there b o e hx
      exact ⟨o', (hs.2 b (Nat.ne_of_lt (Nat.lt_of_lt_of_le (Heap.lt_size e) (I.ok.cab x c hfn hc)))).trans e1⟩
    · by_cases hj : j = i
      · subst hj
        rw [hi] at e1; cases e1
        rw [List.getElem?_set_self hiσ] at e2
        cases e2
        exact ⟨u, r, .inr ⟨.inl hk, c, hc, hc'⟩⟩
      · rw [List.getElem?_set_ne (Ne.symm hj)] at e2
        obtain ⟨u', r', q⟩ := hl j y v' e1 e2 e3
        refine ⟨u', r', ?_⟩
        rcases q with q | ⟨k, c', e, z'⟩
        · exact .inl q
        · refine .inr ⟨k, c', e, z'.sameBut hs ?_⟩
          rintro rfl
          exact hj (nodup_ix hN e1 (I.ok.inj _ _ _ e hc ▸ hi))
    · by_cases hcc : c' = c
      · subst hcc; exact ⟨_, hc'⟩
      · obtain ⟨w2, z2⟩ := I.cell y c' e
        exact ⟨w2, z2.sameBut hs hcc⟩
    · obtain ⟨e, n, ne, nf, d⟩ := I.pin p hp
      refine ⟨(hs.2 p.1 ?_).trans e, n, ne, nf, d⟩
      intro q
      rw [q, hoc] at e
      have q' : oc = p.2 := Option.some.inj e
      exact d w' (by rw [← q']; exact hocd)
theorem store_ok {M : Model} {A : Around} {E : Value → Shared → Prop} {i : Nat} {x : Str} {v : V} {u : Value} {Q : Unit → Shared → Prop} (I : Inv X pins σ H s) (hN : X.N.Nodup) (hi : X.N[i]? = some x) (hx : Loc X.env.scope x) (r : RelV v u)
    (h : ∀ s', Inv X pins (σ.set i (some v)) H s' → Q () s') (hf : X.fn x = true ∨ X.env.scope.names.lookup x = some .local := by first | exact .inl rfl | exact .inr rfl | assumption) : wpAny M A (storeName X.env x u) Q E s :=
  store_ok2 I hN hi hx r (fun s' I' _ => h s' I') hf
/-- behind a call or a block, the state as it is -/
theorem Inv.call' {s' : Shared} {ch : List Addr} (I : Inv X pins σ H s) (ho : s'.os = s.os) (u : Un (frs X.stack) ch H H' s.heap s'.heap) (hok : HOk X.prog X.w H' s'.heap) (hg : AllBare s'.gens)
    (hch : ∀ b ∈ ch, (b ∈ X.ex ∨ X.s₀.heap.objs.size ≤ b) ∧ b ≠ X.env.locals ∧ (∀ x c, X.env.cells.lookup x = some c → c ≠ b) ∧ ∀ p ∈ X.pn ++ pins, p.1 ≠ b) : Inv X pins σ H' s' := by
  obtain ⟨h', g', d', t', o'⟩ := s'
  have e : o' = s.os := ho
  subst e
  exact I.call (g' := g') (t' := t') (d' := d') u hok hg hch
end

/-! ### the judgements -/
/-- an exception: its class, its own dict's address (where it has one), the abstract heap behind it -/
noncomputable abbrev XK := Value → Option Addr → Hp → Prop
noncomputable abbrev St := List (Option V)
noncomputable abbrev VK := V → Hp → Prop
/-- an expression's reading; a test's; an argument list's -/
noncomputable abbrev TE := St → Hp → VK → Prop
noncomputable abbrev TT := St → Hp → (Bool → Hp → Prop) → Prop
noncomputable abbrev TA := St → Hp → (List V → Hp → Prop) → Prop
/-- what is wanted behind a statement -/
structure Ends where
  nx : St → Hp → Prop
  rt : VK
  bk : St → Hp → Prop := fun _ _ => False
  ct : St → Hp → Prop := fun _ _ => False
noncomputable abbrev TS := Ends → St → Hp → Prop

noncomputable def EP (X : Cx) (pins : List (Addr × Obj)) (σ : St) (Q : VK) (u : Value) (s' : Shared) : Prop := ∃ v H', Inv X pins σ H' s' ∧ RelV v u ∧ Q v H'
noncomputable def TP (X : Cx) (pins : List (Addr × Obj)) (σ : St) (Q : Bool → Hp → Prop) (b : Bool) (s' : Shared) : Prop := ∃ H', Inv X pins σ H' s' ∧ Q b H'
noncomputable def AP (X : Cx) (pins : List (Addr × Obj)) (σ : St) (Q : List V → Hp → Prop) (us : List Value) (s' : Shared) : Prop := ∃ vs H', Inv X pins σ H' s' ∧ Vals vs us ∧ Q vs H'
noncomputable def SP (X : Cx) (pins : List (Addr × Obj)) (D : Ends) (f : Flow) (s' : Shared) : Prop :=
  match f with
  | .next => ∃ σ' H', Inv X pins σ' H' s' ∧ D.nx σ' H'
  | .brk => ∃ σ' H', Inv X pins σ' H' s' ∧ D.bk σ' H'
  | .cont => ∃ σ' H', Inv X pins σ' H' s' ∧ D.ct σ' H'
  | .ret u => ∃ v σ' H', Inv X pins σ' H' s' ∧ RelV v u ∧ D.rt v H'

noncomputable def PE (X : Cx) (e : Expr) (t : TE) : Prop :=
  ∀ (pins : List (Addr × Obj)) (s : Shared) (σ : St) (H : Hp) (Q : VK), Inv X pins σ H s → t σ H Q → wpAny (model X.prog X.w) X.A (eval e X.env) (EP X pins σ Q) X.xe s
noncomputable def PT (X : Cx) (e : Expr) (t : TT) : Prop :=
  ∀ (pins : List (Addr × Obj)) (s : Shared) (σ : St) (H : Hp) (Q : Bool → Hp → Prop), Inv X pins σ H s → t σ H Q → wpAny (model X.prog X.w) X.A (isTrue e X.env (eval e X.env)) (TP X pins σ Q) X.xe s
/-- a test whatever its 'whole' is (and, or) -/
noncomputable def PW (X : Cx) (e : Expr) (t : TT) : Prop :=
  ∀ (whole : Sem Value) (pins : List (Addr × Obj)) (s : Shared) (σ : St) (H : Hp) (Q : Bool → Hp → Prop), Inv X pins σ H s → t σ H Q → wpAny (model X.prog X.w) X.A (isTrue e X.env whole) (TP X pins σ Q) X.xe s
theorem PW.pt {X : Cx} {e : Expr} {t : TT} (h : PW X e t) : PT X e t := h _
/-- an argument list (no star), from the left -/
noncomputable def PA (X : Cx) (es : List Expr) (t : TA) : Prop :=
  ∀ (pos : Pos) (pins : List (Addr × Obj)) (s : Shared) (σ : St) (H : Hp) (Q : List V → Hp → Prop), Inv X pins σ H s → t σ H Q → wpAny (model X.prog X.w) X.A (spliced (backTo pos (starEach es X.env))) (AP X pins σ Q) X.xe s
noncomputable def PS (X : Cx) (st : Stmt) (t : TS) : Prop :=
  ∀ (pins : List (Addr × Obj)) (s : Shared) (σ : St) (H : Hp) (D : Ends), Inv X pins σ H s → t D σ H → wpAny (model X.prog X.w) X.A (exec st X.env) (SP X pins D) X.xe s
noncomputable def PSs (X : Cx) (st : List Stmt) (t : TS) : Prop :=
  ∀ (pins : List (Addr × Obj)) (s : Shared) (σ : St) (H : Hp) (D : Ends), Inv X pins σ H s → t D σ H → wpAny (model X.prog X.w) X.A (execs st X.env) (SP X pins D) X.xe s
/-- weaken the end -/
theorem thn {α : Type} {t : Sem α} {Q Q' : α → Shared → Prop} {M : Model} {A : Around} {E : Value → Shared → Prop} {s : Shared} (h : wpAny M A t Q E s) (hQ : ∀ a s, Q a s → Q' a s) : wpAny M A t Q' E s := wpAny_mono h hQ fun _ _ x => x
end L2

namespace L2
open PySem PySem.Spec PyProof.Rows
section
variable {X : Cx}

/-- two expressions in a row -/
theorem bin {a b : Expr} {ta tb : TE} (ha : PE X a ta) (hb : PE X b tb) {pins : List (Addr × Obj)} {s : Shared} {σ : St} {H : Hp} {R : V → V → Hp → Prop} (I : Inv X pins σ H s) (h : ta σ H fun x H1 => tb σ H1 fun y H2 => R x y H2)
    {α : Type} {Q : α → Shared → Prop} {f : Value → Value → Sem α}
    (hf : ∀ v u s2 x y H2, Inv X pins σ H2 s2 → RelV x v → RelV y u → R x y H2 → wpAny (model X.prog X.w) X.A (f v u) Q X.xe s2) :
    wpAny (model X.prog X.w) X.A (eval a X.env) (fun v s₁ => wpAny (model X.prog X.w) X.A (eval b X.env) (fun u s₂ => wpAny (model X.prog X.w) X.A (f v u) Q X.xe s₂) X.xe s₁) X.xe s := by
  refine thn (ha pins s σ H _ I h) fun v s1 ⟨x, H1, I1, r1, q1⟩ => ?_
  refine thn (hb pins s1 σ H1 _ I1 q1) fun u s2 ⟨y, H2, I2, r2, q2⟩ => ?_
  exact hf v u s2 x y H2 I2 r1 r2 q2

/-! ### names and constants -/
noncomputable abbrev tVar (i : Nat) : TE := fun σ H Q => ∃ v, σ[i]? = some (some v) ∧ Q v H
noncomputable abbrev tC (v : V) : TE := fun _ H Q => Q v H
theorem pe_var {i : Nat} {x : Str} {pos : Pos} (hN : X.N[i]? = some x) (hv : Vis X.env.scope x) (hd : (x == ("__debug__" : Str)) = false := by decide) (hcd : (x == ("__classdict__" : Str)) = false := by decide) : PE X (.Name x pos) (tVar i) := by
  intro pins s σ H Q I h
  obtain ⟨v, e, h⟩ := h
  obtain ⟨m, hn, hl⟩ := I.loc
  obtain ⟨u, r, l⟩ := hl i x v hN e hv
  have fin : EP X pins σ Q u s := ⟨v, H, I, r, h⟩
  rcases l with ⟨hk, hm⟩ | ⟨hk, c, hc, hcell⟩
  · exact wpAny_Name (wpAny_loadName_local I.ok.kind hk hn hm fin) hd
  · rcases hk with hk | hk
    · exact wpAny_Name (wpAny_loadName_cell I.ok.kind hk hc hcell fin) hd
    · exact wpAny_Name (wpAny_loadName_free I.ok.kind hk hc hcell fin hcd) hd
theorem pe_int {i j pos} : PE X (.Constant (.int i) j pos) (tC (.int i)) := fun _ _ _ H _ I h => wpAny_Constant_int ⟨.int i, H, I.tok _, ⟨_, rfl⟩, h⟩
theorem pe_bl {b j pos} : PE X (.Constant (.bool b) j pos) (tC (.bl b)) := fun _ _ _ H _ I h => Constant_bool ⟨.bl b, H, I, rfl, h⟩
theorem pe_non {j pos} : PE X (.Constant .none j pos) (tC .non) := fun _ _ _ H _ I h => Constant_none ⟨.non, H, I, rfl, h⟩
theorem pe_str {x j pos} : PE X (.Constant (.str x) j pos) (tC (.str x)) := fun _ _ _ H _ I h => Calls.Constant_str ⟨.str x, H, I.tok _, ⟨_, rfl⟩, h⟩

/-- a global name of the def -/
noncomputable def Gl (X : Cx) (x : Str) : Prop := X.env.kindOf x = some .globalImplicit
theorem ld_glob {E : Value → Shared → Prop} {pins : List (Addr × Obj)} {s : Shared} {σ : St} {H : Hp} {x : Str} {u : Value} {pos : Pos} {Q : Value → Shared → Prop} (I : Inv X pins σ H s) (hg : Gl X x) (hm : X.mg x = some u) (h : Q u s)
    (hd : (x == ("__debug__" : Str)) = false := by decide) : wpAny (model X.prog X.w) X.A (eval (.Name x pos) X.env) Q E s :=
  Calls.Name_function_global I.ok.kind hg (Calls.loadGlobal_global (by rw [I.ok.glob]; exact I.mod.glob.keeps I.bk) hm h) hd
theorem ld_blt {E : Value → Shared → Prop} {pins : List (Addr × Obj)} {s : Shared} {σ : St} {H : Hp} {x : Str} {u : Value} {pos : Pos} {Q : Value → Shared → Prop} (I : Inv X pins σ H s) (hg : Gl X x) (hm : X.mg x = none) (hv : bootBuiltins x = some u) (h : Q u s)
    (hn : x ≠ "__name__" := by decide) (hd : (x == ("__debug__" : Str)) = false := by decide) : wpAny (model X.prog X.w) X.A (eval (.Name x pos) X.env) Q E s := by
  obtain ⟨mb, h1, h2⟩ := I.mod.blt
  exact Calls.Name_function_global I.ok.kind hg (Calls.loadGlobal_builtin (by rw [I.ok.glob]; exact I.mod.glob.keeps I.bk) hm (by rw [I.ok.blt]; exact h1.keeps I.bk) ((h2 x hn).trans hv) h) hd
/-- a module's constant, a class, a function, as a value -/
theorem pe_glob {x : Str} {v : V} {u : Value} {pos : Pos} (hg : Gl X x) (hm : X.mg x = some u) (r : RelV v u) (hd : (x == ("__debug__" : Str)) = false := by decide) : PE X (.Name x pos) (tC v) :=
  fun _ _ _ H _ I h => ld_glob I hg hm ⟨v, H, I, r, h⟩ hd
theorem pe_bltn {x : Str} {v : V} {u : Value} {pos : Pos} (hg : Gl X x) (hm : X.mg x = none) (hv : bootBuiltins x = some u) (r : RelV v u) (hn : x ≠ "__name__" := by decide) (hd : (x == ("__debug__" : Str)) = false := by decide) : PE X (.Name x pos) (tC v) :=
  fun _ _ _ H _ I h => ld_blt I hg hm hv ⟨v, H, I, r, h⟩ hn hd

variable {a b : Expr} {ta tb : TE} {pos : Pos}
/-! ### comparisons -/
noncomputable def PC (X : Cx) (op : CmpOp) (a b : Expr) (t : TE) : Prop :=
  ∀ (pins : List (Addr × Obj)) (s : Shared) (σ : St) (H : Hp) (Q : VK), Inv X pins σ H s → t σ H Q →
    wpAny (model X.prog X.w) X.A (eval a X.env) (fun v s₁ => wpAny (model X.prog X.w) X.A (eval b X.env) (fun u s₂ => wpAny (model X.prog X.w) X.A (compareOp op v u) (EP X pins σ Q) X.xe s₂) X.xe s₁) X.xe s
theorem nobehind (b : Expr) {op : CmpOp} (h : op ≠ .In) (h2 : op ≠ .NotIn) : behindInMarks op b = false := by
  have e1 : (op == CmpOp.In) = false := by cases op <;> first | rfl | exact absurd rfl h
  have e2 : (op == CmpOp.NotIn) = false := by cases op <;> first | rfl | exact absurd rfl h2
  cases b <;> simp [behindInMarks, e1, e2]
/-- a comparison as a value, as a test -/
noncomputable abbrev tB (t : TE) : TT := fun σ H Q => t σ H fun x H1 => ∃ c, x = .bl c ∧ Q c H1
theorem pt_cmp {op : CmpOp} {t : TE} (h : PC X op a b t) (h1 : behindInMarks op b = false := by first | exact nobehind _ (by decide) (by decide) | rfl) : PT X (.Compare a [op] [b] pos) (tB t) := by
  intro pins s σ H Q I hw
  refine wpAny_isTrue_Compare1 (thn (h pins s σ H _ I hw) fun v s1 h1 => thn h1 fun u s2 h2 => thn h2 fun c s3 ⟨x, H1, I1, r1, q1⟩ => ?_) h1
  obtain ⟨d, rfl, q⟩ := q1
  cases r1
  exact wpAny_truthy_bool ⟨H1, I1, q⟩
/-- an expression whose value is a bool, as a test -/
theorem pt_val {e : Expr} {t : TE} (h : PE X e t) (he : ∀ whole, isTrue e X.env whole = (do let v ← whole; standAt e.pos; holding [v] (truthy v)) := by intro _; rfl) : PT X e (tB t) := by
  intro pins s σ H Q I hw
  refine isTrue_plain (thn (h pins s σ H _ I hw) fun v s1 ⟨x, H1, I1, r1, q1⟩ => ?_) (he _)
  obtain ⟨d, rfl, q⟩ := q1
  cases r1
  exact wpAny_truthy_bool ⟨H1, I1, q⟩

/-! ### and, or, not -/
variable {tA tB' : TT} {rest : List Expr}
noncomputable abbrev tAnd (t u : TT) : TT := fun σ H Q => t σ H fun c H1 => if c = true then u σ H1 Q else Q false H1
noncomputable abbrev tOr (t u : TT) : TT := fun σ H Q => t σ H fun c H1 => if c = true then Q true H1 else u σ H1 Q
noncomputable abbrev tNot (t : TT) : TT := fun σ H Q => t σ H fun c H1 => Q (!c) H1
theorem pw_and1 (ha : PT X a tA) : PW X (.BoolOp .And [a] pos) tA := by
  intro wh pins s σ H Q I h
  refine isTrue_and (thn (ha pins s σ H Q I h) fun c s1 e => ?_)
  cases c with
  | true => exact isTrue_and_nil e
  | false => exact e
theorem pw_or1 (ha : PT X a tA) : PW X (.BoolOp .Or [a] pos) tA := by
  intro wh pins s σ H Q I h
  refine isTrue_or (thn (ha pins s σ H Q I h) fun c s1 e => ?_)
  cases c with
  | false => exact isTrue_or_nil e
  | true => exact e
theorem pw_and (ha : PT X a tA) (hb : PW X (.BoolOp .And (b :: rest) pos) tB') : PW X (.BoolOp .And (a :: b :: rest) pos) (tAnd tA tB') := by
  intro wh pins s σ H Q I h
  refine isTrue_and (thn (ha pins s σ H _ I h) fun c s1 ⟨H1, I1, q1⟩ => ?_)
  cases c with
  | true => exact hb wh pins s1 σ H1 Q I1 q1
  | false => exact ⟨H1, I1, q1⟩
theorem pw_or (ha : PT X a tA) (hb : PW X (.BoolOp .Or (b :: rest) pos) tB') : PW X (.BoolOp .Or (a :: b :: rest) pos) (tOr tA tB') := by
  intro wh pins s σ H Q I h
  refine isTrue_or (thn (ha pins s σ H _ I h) fun c s1 ⟨H1, I1, q1⟩ => ?_)
  cases c with
  | true => exact ⟨H1, I1, q1⟩
  | false => exact hb wh pins s1 σ H1 Q I1 q1
theorem pt_not (ha : PT X a tA) : PT X (.UnaryOp .Not a pos) (tNot tA) := by
  intro pins s σ H Q I h
  exact isTrue_not (ha pins s σ H (fun c H1 => Q (!c) H1) I h)
/-- .. as values (bools) -/
noncomputable abbrev tAndV (ta tb : TE) : TE := fun σ H Q => ta σ H fun x H1 => ∃ c, x = .bl c ∧ if c = true then tb σ H1 Q else Q (.bl false) H1
noncomputable abbrev tNotV (ta : TE) : TE := fun σ H Q => ta σ H fun x H1 => ∃ c, x = .bl c ∧ Q (.bl (!c)) H1
theorem pe_one {op} {t : TE} (h : PE X a t) : PE X (.BoolOp op [a] pos) t := fun pins s σ H Q I hw => BoolOp_one (h pins s σ H Q I hw)
theorem pe_and (ha : PE X a ta) (hb : PE X (.BoolOp .And (b :: rest) pos) tb) : PE X (.BoolOp .And (a :: b :: rest) pos) (tAndV ta tb) := by
  intro pins s σ H Q I h
  refine BoolOp_and (thn (ha pins s σ H _ I h) fun v s1 ⟨x, H1, I1, r1, q1⟩ => ?_)
  obtain ⟨c, rfl, q1⟩ := q1
  cases r1
  refine wpAny_truthy_bool ?_
  cases c with
  | true => exact hb pins s1 σ H1 Q I1 q1
  | false => exact ⟨.bl false, H1, I1, rfl, q1⟩
theorem pe_not (ha : PE X a ta) : PE X (.UnaryOp .Not a pos) (tNotV ta) := by
  intro pins s σ H Q I h
  refine UnaryOp_ (thn (ha pins s σ H _ I h) fun v s1 ⟨x, H1, I1, r1, q1⟩ => ?_)
  obtain ⟨c, rfl, q1⟩ := q1
  cases r1
  exact not_of (wpAny_truthy_bool ⟨.bl (!c), H1, I1, rfl, q1⟩)
/-- a if t else b -/
noncomputable abbrev tIf (t : TT) (ta tb : TE) : TE := fun σ H Q => t σ H fun c H1 => if c = true then ta σ H1 Q else tb σ H1 Q
theorem pe_ifExp {c : Expr} (hc : PT X c tA) (ha : PE X a ta) (hb : PE X b tb) : PE X (.IfExp c a b pos) (tIf tA ta tb) := by
  intro pins s σ H Q I h
  refine wpAny_IfExp (thn (hc pins s σ H _ I h) fun d s1 ⟨H1, I1, q1⟩ => ?_)
  cases d with
  | true => exact ha pins s1 σ H1 Q I1 q1
  | false => exact hb pins s1 σ H1 Q I1 q1
end
end L2

namespace L2
open PySem PySem.Spec PyProof.Rows

/-! ### a list, a tuple that is read: tracked, frozen, or an object of the module -/
noncomputable def SqL (K : PySem.W.Frag) (H : Hp) (a : Addr) (xs : List V) : Prop :=
  Rd H a (.lst xs) ∨
    ∃ (o : Obj) (its : Array Value) (n : Nat), K.lookup a = some o ∧ o.cls = .type "list" ∧ o.dict = none ∧ o.data = .seq its n ∧ its.size ≤ sizeLine ∧ Vals xs its.toList
noncomputable def SqT (K : PySem.W.Frag) (H : Hp) (a : Addr) (xs : List V) : Prop :=
  Rd H a (.tup xs) ∨
    ∃ (o : Obj) (its : Array Value) (n : Nat), K.lookup a = some o ∧ o.cls = .type "tuple" ∧ o.data = .seq its n ∧ its.size ≤ sizeLine ∧ Vals xs its.toList
noncomputable def absV : Value → Option V
  | .none => some .non
  | .bool b => some (.bl b)
  | .int i _ => some (.int i)
  | .str x _ => some (.str x)
  | .bytes b _ => some (.byt b)
  | .float b _ => some (.flt b)
  | .ref a => some (.ref a)
  | .type n => some (.ty n)
  | _ => none
theorem RelV.abs {x : V} {u : Value} (r : RelV x u) : absV u = some x := by
  cases x with
  | non => cases r; rfl
  | bl _ => cases r; rfl
  | int _ => obtain ⟨t, rfl⟩ := r; rfl
  | str _ => obtain ⟨t, rfl⟩ := r; rfl
  | byt _ => obtain ⟨t, rfl⟩ := r; rfl
  | flt _ => obtain ⟨t, rfl⟩ := r; rfl
  | ref _ => cases r; rfl
  | ty _ => cases r; rfl
theorem RelV.inj {x y : V} {u : Value} (r : RelV x u) (q : RelV y u) : x = y := Option.some.inj (r.abs.symm.trans q.abs)
theorem Vals.inj : ∀ {xs ys : List V} {us : List Value}, Vals xs us → Vals ys us → xs = ys
  | _, _, _, .nil, .nil => rfl
  | _, _, _, .cons r t, .cons r' t' => by rw [r.inj r', Vals.inj t t']
section
variable {X : Cx} {pins : List (Addr × Obj)} {σ : St} {H : Hp} {s : Shared} {a : Addr} {xs ys : List V}
theorem SqL.of {K : PySem.W.Frag} (h : H a = some (.lst xs)) : SqL K H a xs := .inl (.inl h)
theorem SqT.of {K : PySem.W.Frag} (h : H a = some (.tup xs)) : SqT K H a xs := .inl (.inl h)
theorem Inv.list (I : Inv X pins σ H s) (h : SqL X.K H a xs) : ∃ its : List Value, Vals xs its ∧ PlainL s.heap a its.toArray ∧ xs.length ≤ sizeLine := by
  rcases h with h | ⟨o, its, n, hk, hc, hd, hs, hz, r⟩
  · obtain ⟨z, its, n, r, e⟩ := h.ok I.hok
    exact ⟨its, r, ⟨_, n, e, rfl, rfl, rfl⟩, z⟩
  · refine ⟨its.toList, r, ⟨o, n, I.kIn a o hk, hc, hd, by simpa using hs⟩, ?_⟩
    have e := r.length
    simp only [Array.length_toList] at e
    omega
theorem Inv.tuple (I : Inv X pins σ H s) (h : SqT X.K H a xs) : ∃ its : List Value, Vals xs its ∧ IsTup s.heap a its.toArray ∧ xs.length ≤ sizeLine := by
  rcases h with h | ⟨o, its, n, hk, hc, hs, hz, r⟩
  · obtain ⟨z, its, r, p⟩ := h.ok I.hok
    exact ⟨its, r, p, z⟩
  · refine ⟨its.toList, r, ⟨o, I.kIn a o hk, hc, n, by simpa using hs⟩, ?_⟩
    have e := r.length
    simp only [Array.length_toList] at e
    omega
theorem Inv.list_inj (I : Inv X pins σ H s) (h : SqL X.K H a xs) (h' : SqL X.K H a ys) : xs = ys := by
  obtain ⟨its, r, ⟨o, n, e, _, _, d⟩, _⟩ := I.list h
  obtain ⟨its', r', ⟨o', n', e', _, _, d'⟩, _⟩ := I.list h'
  rw [e] at e'; cases e'
  rw [d] at d'
  injection d' with d1 _
  have : its = its' := by simpa using congrArg Array.toList d1
  subst this
  exact r.inj r'
theorem Inv.tuple_inj (I : Inv X pins σ H s) (h : SqT X.K H a xs) (h' : SqT X.K H a ys) : xs = ys := by
  obtain ⟨its, r, ⟨o, e, _, n, d⟩, _⟩ := I.tuple h
  obtain ⟨its', r', ⟨o', e', _, n', d'⟩, _⟩ := I.tuple h'
  rw [e] at e'; cases e'
  rw [d] at d'
  injection d' with d1 _
  have : its = its' := by simpa using congrArg Array.toList d1
  subst this
  exact r.inj r'
end

/-! ### another wish about exceptions -/
noncomputable abbrev Cx.wish (X : Cx) (E : Value → Shared → Prop) : Cx := { X with xe := E }
/-- no exception leaves -/
noncomputable abbrev Cx.nox (X : Cx) : Cx := X.wish fun _ _ => False
theorem Cx.Ok.wish {X : Cx} (ok : X.Ok) (E : Value → Shared → Prop) : (X.wish E).Ok :=
  ⟨ok.mod, ok.kind, ok.glob, ok.blt, ok.above, ok.inj, ok.has, ok.cab, ok.hd, ok.frames, ok.stk, ok.exf, ok.bs, ok.bsz, ok.noex, ok.exfs, ok.funs, ok.frf⟩
theorem Cx.Ok.unwish {X : Cx} {E : Value → Shared → Prop} (ok : (X.wish E).Ok) : X.Ok :=
  ⟨ok.mod, ok.kind, ok.glob, ok.blt, ok.above, ok.inj, ok.has, ok.cab, ok.hd, ok.frames, ok.stk, ok.exf, ok.bs, ok.bsz, ok.noex, ok.exfs, ok.funs, ok.frf⟩
section
variable {X : Cx} {pins : List (Addr × Obj)} {σ : St} {H : Hp} {s : Shared} {E : Value → Shared → Prop}
theorem Inv.wish (I : Inv X pins σ H s) (E : Value → Shared → Prop) : Inv (X.wish E) pins σ H s := ⟨I.ok.wish E, I.os, I.bare, I.base, I.loc, I.cell, I.free, I.freeC, I.pin, I.hok, I.len⟩
theorem Inv.unwish (I : Inv (X.wish E) pins σ H s) : Inv X pins σ H s := ⟨I.ok.unwish, I.os, I.bare, I.base, I.loc, I.cell, I.free, I.freeC, I.pin, I.hok, I.len⟩
end

/-! ### blocks and small statements -/
section
variable {X : Cx} {st : Stmt} {rest : List Stmt} {t u : TS} {e : Expr} {te : TE} {pos : Pos}
noncomputable abbrev tNext : TS := fun D σ H => D.nx σ H
noncomputable abbrev tSeq (t u : TS) : TS := fun D σ H => t { D with nx := u D } σ H
theorem pss_nil : PSs X [] tNext := fun _ _ σ H _ I h => wpAny_execs_nil ⟨σ, H, I, h⟩
theorem pss_cons (h1 : PS X st t) (h2 : PSs X rest u) : PSs X (st :: rest) (tSeq t u) := by
  intro pins s σ H D I h
  refine wpAny_execs_cons (thn (h1 pins s σ H { D with nx := u D } I h) fun f s1 q => ?_)
  cases f with
  | next =>
    obtain ⟨σ', H', I', q⟩ := q
    exact h2 pins s1 σ' H' D I' q
  | ret v => exact q
  | brk => exact q
  | cont => exact q
theorem pss_one (h1 : PS X st t) : PSs X [st] t := by
  intro pins s σ H D I h
  refine wpAny_execs_cons (thn (h1 pins s σ H D I h) fun f s1 q => ?_)
  cases f with
  | next => exact wpAny_execs_nil q
  | ret v => exact q
  | brk => exact q
  | cont => exact q
/-- in a def's body nothing is shown -/
theorem Inv.quiet {pins : List (Addr × Obj)} {σ : St} {H : Hp} {s : Shared} (I : Inv X pins σ H s) : interactive X.env = false := by simp [interactive, I.ok.kind]
/-- an expression whose value is dropped -/
noncomputable abbrev tDrop (te : TE) : TS := fun D σ H => te σ H fun _ H1 => D.nx σ H1
theorem ps_expr (he : PE X e te) (hs : swapsWith e none pos.line X.env = pure false := by rfl) : PS X (.Expr e pos) (tDrop te) := by
  intro pins s σ H D I h
  exact wpAny_Expr_any (thn (he pins s σ H _ I h) fun v s1 ⟨x, H1, I1, r1, q1⟩ => ⟨σ, H1, I1, q1⟩) I.quiet hs
noncomputable abbrev tRet (te : TE) : TS := fun D σ H => te σ H D.rt
theorem ps_ret (he : PE X e te) : PS X (.Return (some e) pos) (tRet te) := by
  intro pins s σ H D I h
  exact wpAny_Return_some (thn (he pins s σ H _ I h) fun v s1 ⟨x, H1, I1, r1, q1⟩ => ⟨x, σ, H1, I1, r1, q1⟩)
noncomputable abbrev tIfS (c : TT) (t u : TS) : TS := fun D σ H => c σ H fun b H1 => if b = true then t D σ H1 else u D σ H1
theorem ps_if {c : Expr} {a b : List Stmt} {tc : TT} (hc : PT X c tc) (ha : PSs X a t) (hb : PSs X b u) : PS X (.If c a b pos) (tIfS tc t u) := by
  intro pins s σ H D I h
  refine wpAny_If (thn (hc pins s σ H _ I h) fun d s1 ⟨H1, I1, q1⟩ => ?_)
  cases d with
  | true => exact ha pins s1 σ H1 D I1 q1
  | false => exact hb pins s1 σ H1 D I1 q1
/-- code that the proof never comes to -/
noncomputable def tNever : TS := fun _ _ _ => False
theorem pss_never {sts : List Stmt} : PSs X sts tNever := fun _ _ _ _ _ _ h => h.elim
end

/-! ### targets -/
noncomputable abbrev TG := V → St → Hp → (St → Hp → Prop) → Prop
noncomputable abbrev TGs := List V → St → Hp → (St → Hp → Prop) → Prop
noncomputable def PG (X : Cx) (target : Expr) (t : TG) : Prop :=
  ∀ (pins : List (Addr × Obj)) (s : Shared) (σ : St) (H : Hp) (v : V) (u : Value) (Q : St → Hp → Prop), Inv X pins σ H s → RelV v u → t v σ H Q →
    wpAny (model X.prog X.w) X.A (assign target X.env u) (fun _ s' => ∃ σ' H', Inv X pins σ' H' s' ∧ Q σ' H') X.xe s
/-- several targets, one after another -/
noncomputable def PGs (X : Cx) (ts : List Expr) (t : TGs) : Prop :=
  ∀ (pins : List (Addr × Obj)) (s : Shared) (σ : St) (H : Hp) (vs : List V) (us : List Value) (Q : St → Hp → Prop), Inv X pins σ H s → Vals vs us → t vs σ H Q →
    wpAny (model X.prog X.w) X.A (assignInOrder ((assignEach ts X.env).map (·.2)) us) (fun _ s' => ∃ σ' H', Inv X pins σ' H' s' ∧ Q σ' H') X.xe s
section
variable {X : Cx} {pos : Pos}
noncomputable abbrev gName (i : Nat) : TG := fun v σ H Q => Q (σ.set i (some v)) H
theorem pg_name {i : Nat} {x : Str} (hN : X.N.Nodup) (hi : X.N[i]? = some x) (hx : Loc X.env.scope x) (hf : X.fn x = true ∨ X.env.scope.names.lookup x = some .local := by first | exact .inl rfl | exact .inr rfl | assumption) : PG X (.Name x pos) (gName i) := by
  intro pins s σ H v u Q I r h
  exact wpAny_assign_Name (store_ok I hN hi hx r (fun s' I' => ⟨_, H, I', h⟩) hf)
noncomputable def gNil : TGs := fun vs σ H Q => vs = [] ∧ Q σ H
noncomputable def gCons (t : TG) (u : TGs) : TGs := fun vs σ H Q => ∃ v r, vs = v :: r ∧ t v σ H fun σ' H' => u r σ' H' Q
theorem pgs_nil : PGs X [] gNil := by
  intro pins s σ H vs us Q I r h
  obtain ⟨e, h⟩ := h
  subst e
  cases r
  exact assignInOrder_nil ⟨σ, H, I, h⟩
theorem pgs_cons {e : Expr} {es : List Expr} {t : TG} {u : TGs} (h1 : PG X e t) (h2 : PGs X es u)
    (hs : (assignEach (e :: es) X.env).map (·.2) = assign e X.env :: (assignEach es X.env).map (·.2) := by rfl) : PGs X (e :: es) (gCons t u) := by
  intro pins s σ H vs us Q I r h
  obtain ⟨v, vr, e1, h⟩ := h
  subst e1
  cases r with
  | cons r rr =>
    rw [hs]
    refine assignInOrder_cons (thn (h1 pins s σ H _ _ _ I r h) fun _ s1 ⟨σ1, H1, I1, q1⟩ => ?_)
    exact h2 pins s1 σ1 H1 _ _ Q I1 rr q1
/-- (a, b, ..) = a tuple of that length -/
noncomputable def gTup (K : PySem.W.Frag) (n : Nat) (t : TGs) : TG := fun v σ H Q => ∃ a xs, v = .ref a ∧ SqT K H a xs ∧ xs.length = n ∧ t xs σ H Q
theorem pg_tup {es : List Expr} {k : Nat} {t : TGs} {n : Nat} (hc : X.calm = true) (h : PGs X es t)
    (hn : (assignEach es X.env).length = n := by rfl) (hst : (assignEach es X.env).findIdx? (·.1) = none := by rfl) : PG X (.Tuple es k pos) (gTup X.K n t) := by
  intro pins s σ H v u Q I r hw
  obtain ⟨a, xs, e1, hq, hl, hw⟩ := hw
  subst e1
  cases r
  obtain ⟨its, rv, ht, hz⟩ := I.tuple hq
  refine assign_Tuple_tuple (I.ok.hd hc) ht (by simp [hn, ← hl, rv.length]) hst fun h' hx => ?_
  have I1 : Inv X pins σ H { s with heap := h' } := I.kept (t' := s.toks) fun b o e => hx b o (Nat.ne_of_lt (Heap.lt_size e)) e
  exact h pins _ σ H xs _ Q I1 (by simpa using rv) hw
/-- target = value -/
noncomputable abbrev tAsg (te : TE) (g : TG) : TS := fun D σ H => te σ H fun x H1 => g x σ H1 D.nx
theorem ps_asg {tg e : Expr} {te : TE} {g : TG} (he : PE X e te) (hg : PG X tg g) (hs : swapsWithSole [tg] e pos.line X.env = pure false := by rfl) (hw : swappedStores [tg] e X.env = pure none := by rfl)
    (h1 : (assignEach [tg] X.env).map (·.2) = [assign tg X.env] := by rfl) : PS X (.Assign [tg] e pos) (tAsg te g) := by
  intro pins s σ H D I h
  refine wpAny_Assign_stores (thn (he pins s σ H _ I h) fun v s1 ⟨x, H1, I1, r1, q1⟩ => ?_) hs hw
  rw [h1]
  exact thn (hg pins s1 σ H1 x v _ I1 r1 q1) fun _ s2 q => q
/-- name = value -/
theorem ps_set {i : Nat} {x : Str} {e : Expr} {te : TE} {pos' : Pos} (hN : X.N.Nodup) (hi : X.N[i]? = some x) (hx : Loc X.env.scope x) (he : PE X e te) (hs : swapsWith e (some (.Name x pos')) pos.line X.env = pure false := by rfl) (hf : X.fn x = true ∨ X.env.scope.names.lookup x = some .local := by first | exact .inl rfl | exact .inr rfl | assumption) :
    PS X (.Assign [.Name x pos'] e pos) (tAsg te (gName i)) := by
  intro pins s σ H D I h
  refine wpAny_Assign_Name (thn (he pins s σ H _ I h) fun v s1 ⟨y, H1, I1, r1, q1⟩ => ?_) hs
  exact store_ok I1 hN hi hx r1 (fun s2 I2 => ⟨_, H1, I2, q1⟩) hf
end

/-! ### while -/
section
variable {X : Cx} {pos : Pos}
end

/-! ### what a loop or a comprehension walks -/
/-- at turn i: it yields x (the heap may grow), or it stops -/
structure It where
  go : Nat → Hp → Prop
  yld : Nat → Hp → V → Hp → Prop
  stop : Nat → Hp → Prop
/-- the iterator's own objects may turn: they are not the frame's, not pinned, younger than the entry (or a comprehension's own) -/
noncomputable def FpOk (X : Cx) (pins : List (Addr × Obj)) (H : Hp) (b : Addr) : Prop :=
  H b = none ∧ b ≠ X.env.locals ∧ b ∉ X.fs ∧ (b ∈ X.ex ∨ X.s₀.heap.objs.size ≤ b) ∧ (∀ x c, X.env.cells.lookup x = some c → c ≠ b) ∧ ∀ p ∈ X.pn ++ pins, p.1 ≠ b
theorem Inv.fpOk {X : Cx} {pins : List (Addr × Obj)} {σ : St} {H H' : Hp} {s : Shared} {b : Addr} (I : Inv X pins σ H s) (hb : s.heap.objs.size ≤ b) (hn : H' b = none) : FpOk X pins H' b := by
  refine ⟨hn, Nat.ne_of_gt (Nat.lt_of_lt_of_le I.lt hb), I.nofs hb, .inr (Nat.le_trans I.sz hb), fun x c e z => ?_, fun p hp z => ?_⟩
  · obtain ⟨v, q⟩ := I.cell x c e
    exact absurd (Nat.lt_of_lt_of_le q.lt (by rw [z]; exact hb)) (Nat.lt_irrefl _)
  · exact absurd (Nat.lt_of_lt_of_le (Heap.lt_size (I.pin p hp).1) (by rw [z]; exact hb)) (Nat.lt_irrefl _)
structure Turn (P : Program) (w : World) (K : PySem.W.Frag) (tg : Expr) (J : It) (fp : List Addr) (it : Addr) (tn : Nat → Heap → Prop) : Prop where
  mem : it ∈ fp
  obj : ∀ i h, tn i h → ∀ b ∈ fp, ∃ o, h.get? b = some o ∧ ∀ v, o.data ≠ .cell v
  keep : ∀ i h h', tn i h → (∀ b ∈ fp, ∀ o, h.get? b = some o → h'.get? b = some o) → tn i h'
  item : ∀ (X : Cx), X.prog = P → X.w = w → X.K = K → X.calm = true → ∀ (i : Nat) (pins : List (Addr × Obj)) (s : Shared) (σ : St) (H : Hp) (E : Value → Shared → Prop), Inv X pins σ H s → (∀ b ∈ fp, FpOk X pins H b) → tn i s.heap → J.go i H →
    wpAny (model P w) X.A (pyNext (.ref it)) (fun r s1 => ∃ u, r = some u ∧
      wpAny (model P w) X.A (letOwnedTupleGo tg (.ref it) u) (fun _ s2 => ∃ x H', Inv X pins σ H' s2 ∧ RelV x u ∧ J.yld i H x H' ∧ tn (i + 1) s2.heap ∧ ∀ b ∈ fp, H' b = none) E s1) E s
  done : ∀ (X : Cx), X.prog = P → X.w = w → X.K = K → X.calm = true → ∀ (i : Nat) (pins : List (Addr × Obj)) (s : Shared) (σ : St) (H : Hp) (E : Value → Shared → Prop), Inv X pins σ H s → (∀ b ∈ fp, FpOk X pins H b) → tn i s.heap → J.stop i H →
    wpAny (model P w) X.A (pyNext (.ref it)) (fun r s1 => r = none ∧ Inv X pins σ H s1) E s
  self : ∀ (A : Around) (i : Nat) (s : Shared) (Q : Value → Shared → Prop) (E : Value → Shared → Prop), tn i s.heap → Q (.ref it) s → wpAny (model P w) A (pyIter (.ref it)) Q E s
noncomputable abbrev TI := St → Hp → (It → Hp → Prop) → Prop
/-- an iterator has come -/
noncomputable def PIE (X : Cx) (pins : List (Addr × Obj)) (σ : St) (tg : Expr) (R : It → Hp → Prop) (itv : Value) (s2 : Shared) : Prop :=
  ∃ (it : Addr) (fp : List Addr) (tn : Nat → Heap → Prop) (J : It) (H' : Hp), itv = .ref it ∧ Inv X pins σ H' s2 ∧ Turn X.prog X.w X.K tg J fp it tn ∧ tn 0 s2.heap ∧ (∀ b ∈ fp, FpOk X pins H' b) ∧ R J H'
noncomputable def PI (X : Cx) (tg iter : Expr) (wi : TI) : Prop :=
  ∀ (pins : List (Addr × Obj)) (s : Shared) (σ : St) (H : Hp) (R : It → Hp → Prop), Inv X pins σ H s → wi σ H R →
    wpAny (model X.prog X.w) X.A (eval iter X.env) (fun v s1 => wpAny (model X.prog X.w) X.A (pyIter v) (PIE X pins σ tg R) X.xe s1) X.xe s

/-- the step ahead of the store is nothing for an iterator that keeps no tuple -/
theorem go_of {M : Model} {A : Around} {E : Value → Shared → Prop} {s : Shared} {tg : Expr} {it : Addr} {u : Value} {o : Obj} {n : String} {vs : Array Value} {Q : Unit → Shared → Prop} (ho : s.heap.get? it = some o) (hc : o.cls = .type n) (hd : o.data = .fields vs)
    (hn : ["enumerate", "zip", "dict_itemiterator", "dict_reverseitemiterator", "odict_iterator", "itertools.zip_longest", "itertools.pairwise"].contains n = false) (hQ : Q () s) : wpAny M A (letOwnedTupleGo tg (.ref it) u) Q E s := by
  unfold letOwnedTupleGo
  cases tg <;> first
    | exact wpAny_pure hQ
    | (cases u <;> first
        | exact wpAny_pure hQ
        | (refine wpAny_bind (wpAny_load ho ?_)
           rw [hc, hd]
           show wpAny M A (if (["enumerate", "zip", "dict_itemiterator", "dict_reverseitemiterator", "odict_iterator", "itertools.zip_longest", "itertools.pairwise"].contains n && vs[0]? == some (rawInt _)) = true then _ else _) Q E s
           rw [if_neg (by intro h; rw [hn, Bool.false_and] at h; cases h)]
           exact wpAny_pure hQ))

/-- the list at a, as it stands at each turn (a loop may append to it) -/
noncomputable def Itl (K : PySem.W.Frag) (a : Addr) : It :=
  ⟨fun i H => ∃ xs x, SqL K H a xs ∧ xs[i]? = some x, fun i H x H' => H' = H ∧ ∀ xs, SqL K H a xs → xs[i]? = some x, fun i H => ∃ xs, SqL K H a xs ∧ xs.length ≤ i⟩
noncomputable def Itt (K : PySem.W.Frag) (a : Addr) : It :=
  ⟨fun i H => ∃ xs x, SqT K H a xs ∧ xs[i]? = some x, fun i H x H' => H' = H ∧ ∀ xs, SqT K H a xs → xs[i]? = some x, fun i H => ∃ xs, SqT K H a xs ∧ xs.length ≤ i⟩
/-- lo, lo + 1, .. (n of them) -/
noncomputable def Itr (lo : Int) (n : Nat) : It := ⟨fun i _ => i < n, fun i H x H' => H' = H ∧ x = .int (lo + i), fun i _ => n ≤ i⟩
theorem turn_list {P : Program} {w : World} {K : PySem.W.Frag} {tg : Expr} (a it : Addr) : Turn P w K tg (Itl K a) [it] it (fun i h => h.IsListIter it a i) where
  mem := by simp
  obj := fun i h st b hb => by
    have e : b = it := by simpa using hb
    subst e
    obtain ⟨o, e, c, d⟩ := st
    exact ⟨o, e, fun v z => by rw [d] at z; cases z⟩
  keep := fun i h h' st k => st.at fun o e => k it (by simp) o e
  item := by
    intro X hP hw hK hc i pins s σ H E I hf st hg
    subst hP hw hK
    obtain ⟨xs, x, hq, hx⟩ := hg
    obtain ⟨its, rv, p, hz⟩ := I.list hq
    obtain ⟨u, hu, ru⟩ := rv.get hx
    obtain ⟨f0, f1, f2, f3, f4, f5⟩ := hf it (by simp)
    refine wpAny_pyNext_list_item st p.isList (x := u) (by simpa using hu) fun h' st' sb => ?_
    have I1 : Inv X pins σ H { s with heap := h' } := I.turned (t' := s.toks) (fun b o hb e => (sb.2 b hb).trans e) f0 f1 f3 f4 f5
    obtain ⟨o, e, c, d⟩ := id st'
    exact ⟨u, rfl, go_of (s := { s with heap := h' }) e c d (by decide) ⟨x, H, I1, ru, ⟨rfl, fun ys hy => by rw [I.list_inj hy hq]; exact hx⟩, st', fun b hb => (hf b hb).1⟩⟩
  done := by
    intro X hP hw hK hc i pins s σ H E I hf st hg
    subst hP hw hK
    obtain ⟨xs, hq, hx⟩ := hg
    obtain ⟨its, rv, p, hz⟩ := I.list hq
    obtain ⟨f0, f1, f2, f3, f4, f5⟩ := hf it (by simp)
    have hl := rv.length
    exact wpAny_pyNext_list_end (I.ok.hd hc) st p.isList (by simp; omega) fun h' eb => ⟨rfl, I.turned (t' := s.toks) (fun b o hb e => eb b o hb e) f0 f1 f3 f4 f5⟩
  self := fun _ _ _ _ _ st h => wpAny_pyIter_listiter st h
theorem turn_tuple {P : Program} {w : World} {K : PySem.W.Frag} {tg : Expr} (a it : Addr) : Turn P w K tg (Itt K a) [it] it (fun i h => h.IsTupleIter it a i) where
  mem := by simp
  obj := fun i h st b hb => by
    have e : b = it := by simpa using hb
    subst e
    obtain ⟨o, e, c, d⟩ := st
    exact ⟨o, e, fun v z => by rw [d] at z; cases z⟩
  keep := fun i h h' st k => st.at fun o e => k it (by simp) o e
  item := by
    intro X hP hw hK hc i pins s σ H E I hf st hg
    subst hP hw hK
    obtain ⟨xs, x, hq, hx⟩ := hg
    obtain ⟨its, rv, p, hz⟩ := I.tuple hq
    obtain ⟨u, hu, ru⟩ := rv.get hx
    obtain ⟨f0, f1, f2, f3, f4, f5⟩ := hf it (by simp)
    refine wpAny_pyNext_tuple_item st (show s.heap.IsTuple a its.toArray from p) (x := u) (by simpa using hu) fun h' st' sb => ?_
    have I1 : Inv X pins σ H { s with heap := h' } := I.turned (t' := s.toks) (fun b o hb e => (sb.2 b hb).trans e) f0 f1 f3 f4 f5
    obtain ⟨o, e, c, d⟩ := id st'
    exact ⟨u, rfl, go_of (s := { s with heap := h' }) e c d (by decide) ⟨x, H, I1, ru, ⟨rfl, fun ys hy => by rw [I.tuple_inj hy hq]; exact hx⟩, st', fun b hb => (hf b hb).1⟩⟩
  done := by
    intro X hP hw hK hc i pins s σ H E I hf st hg
    subst hP hw hK
    obtain ⟨xs, hq, hx⟩ := hg
    obtain ⟨its, rv, p, hz⟩ := I.tuple hq
    obtain ⟨f0, f1, f2, f3, f4, f5⟩ := hf it (by simp)
    have hl := rv.length
    exact wpAny_pyNext_tuple_end (I.ok.hd hc) st (show s.heap.IsTuple a its.toArray from p) (by simp; omega) fun h' eb => ⟨rfl, I.turned (t' := s.toks) (fun b o hb e => eb b o hb e) f0 f1 f3 f4 f5⟩
  self := fun _ _ _ _ _ st h => wpAny_pyIter_tupleiter st h
theorem turn_range {P : Program} {w : World} {K : PySem.W.Frag} {tg : Expr} (it : Addr) (lo : Int) (n : Nat) : Turn P w K tg (Itr lo n) [it] it (fun i h => IsRangeIter h it (lo + (i : Nat) * 1) ((n : Int) - (i : Nat)) 1) where
  mem := by simp
  obj := fun i h st b hb => by
    have e : b = it := by simpa using hb
    subst e
    exact ⟨_, st, fun v z => by
      have z' : Data.fields _ = Data.cell v := z
      cases z'⟩
  keep := fun i h h' st k => k it (by simp) _ st
  item := by
    intro X hP hw hK hc i pins s σ H E I hf st hg
    subst hP hw hK
    obtain ⟨f0, f1, f2, f3, f4, f5⟩ := hf it (by simp)
    have W := Walks.range (prog := X.prog) (w := X.w) (I.ok.hd hc) it lo 1 n
    refine W.item i s _ _ hg st fun v h' tk hv st' kk => ?_
    obtain ⟨t, rfl⟩ := hv
    have I1 : Inv X pins σ H { s with heap := h', toks := tk } := I.turned (fun b o hb e => kk b o (by simpa using hb) e) f0 f1 f3 f4 f5
    refine ⟨_, rfl, go_of (s := { s with heap := h', toks := tk }) (n := "range_iterator") st' rfl rfl (by decide) ⟨.int (lo + i), H, I1, ⟨t, ?_⟩, ⟨rfl, rfl⟩, st', fun b hb => (hf b hb).1⟩⟩
    rw [Int.mul_one]
  done := by
    intro X hP hw hK hc i pins s σ H E I hf st hg
    subst hP hw hK
    obtain ⟨f0, f1, f2, f3, f4, f5⟩ := hf it (by simp)
    exact wpAny_pyNext_range_end (I.ok.hd hc) st (by have : n ≤ i := hg; omega) fun h' eb => ⟨rfl, I.turned (t' := s.toks) (fun b o hb e => eb b o hb e) f0 f1 f3 f4 f5⟩
  self := fun _ _ _ _ _ st h => wpAny_pyIter_rangeiter st h
end L2

namespace L2
open PySem PySem.Spec PyProof.Rows
section
variable {X : Cx} {tg : Expr}
/-- a range object just made, walked -/
theorem range_it {pins : List (Addr × Obj)} {σ : St} {H : Hp} {s : Shared} {R : It → Hp → Prop} {E : Value → Shared → Prop} {lo hi : Int} {t u v : Tok} {tk : Nat} (I : Inv X pins σ H s) (h1 : -(2 ^ 62) ≤ lo) (h2 : lo < 2 ^ 62) (h3 : -(2 ^ 62) ≤ hi) (h4 : hi < 2 ^ 62)
    (q : R (Itr lo (hi - lo).toNat) H) : wpAny (model X.prog X.w) X.A (pyIter (.ref s.heap.objs.size)) (PIE X pins σ tg R) E { s with heap := s.heap.push { cls := .type "range", data := .fields #[.int lo t, .int hi u, .int 1 v] }, toks := tk } := by
  refine wpAny_pyIter_range (IsRange.new ..) (small_one h1 h2 h3 h4) ?_
  have I1 : Inv X pins σ H { s with heap := s.heap.push { cls := .type "range", data := .fields #[.int lo t, .int hi u, .int 1 v] }, toks := tk } := I.kept fun b o e => Heap.get?_push_of_some _ e
  refine ⟨(s.heap.push { cls := .type "range", data := .fields #[.int lo t, .int hi u, .int 1 v] }).objs.size, [(s.heap.push { cls := .type "range", data := .fields #[.int lo t, .int hi u, .int 1 v] }).objs.size], _, _, H, rfl,
    I1.kept (t' := tk) fun b o e => Heap.get?_push_of_some _ e, turn_range _ lo (hi - lo).toNat, ?_, fun b hb => ?_, q⟩
  · have e1 : lo + ((0 : Nat) : Int) * 1 = lo := by simp
    have e2 : (((hi - lo).toNat : Nat) : Int) - ((0 : Nat) : Int) = Builtin.Range.rangeSize lo hi 1 := by rw [rangeSize_one]; split <;> omega
    show IsRangeIter _ _ (lo + ((0 : Nat) : Int) * 1) ((((hi - lo).toNat : Nat) : Int) - ((0 : Nat) : Int)) 1
    rw [e1, e2]
    exact Heap.get?_push_size _ rfl
  · have e : b = (s.heap.push { cls := .type "range", data := .fields #[.int lo t, .int hi u, .int 1 v] }).objs.size := by simpa using hb
    subst e
    exact I1.fpOk (Nat.le_refl _) (I1.hok.fresh (Nat.le_refl _))
noncomputable abbrev iRng1 (ta : TA) : TI := fun σ H R => ta σ H fun vs H1 => ∃ j : Int, vs = [.int j] ∧ -(2 ^ 62) ≤ j ∧ j < 2 ^ 62 ∧ R (Itr 0 j.toNat) H1
noncomputable abbrev iRng2 (ta : TA) : TI := fun σ H R => ta σ H fun vs H1 => ∃ i j : Int, vs = [.int i, .int j] ∧ (-(2 ^ 62) ≤ i ∧ i < 2 ^ 62 ∧ -(2 ^ 62) ≤ j ∧ j < 2 ^ 62) ∧ R (Itr i (j - i).toNat) H1
theorem pi_range1 {a : Expr} {ta : TA} {p pos : Pos} (hg : Gl X "range") (hm : X.mg "range" = none) (ha : PA X [a] ta) (hs : starEach [a] X.env = [(false, eval a X.env)] := by rfl) : PI X tg (.Call (.Name "range" p) [a] [] pos) (iRng1 ta) := by
  intro pins s σ H R I h
  refine Call_ (ld_blt I hg hm boot_range (PyProof.Rows.callWith_type1 (thn (ha pos pins s σ H _ I h) fun us s1 ⟨vs, H1, I1, r1, q1⟩ => ?_) hs rfl))
  obtain ⟨j, e, q1, q2, q⟩ := q1
  subst e
  cases r1 with
  | cons r rr =>
    cases rr
    obtain ⟨t, rfl⟩ := r
    exact call_range_1 (range_it I1 (by omega) (by omega) q1 q2 (by simpa using q))
/-! ### for -/
/-- W: the invariant by the turn and a measure; N: what the body is to reach -/
noncomputable abbrev tFor (wi : TI) (g : TG) (tb : TS) : TS := fun D σ H => wi σ H fun J H1 => ∃ W : Nat → Nat → St → Hp → Prop, (∃ m, W 0 m σ H1) ∧ ∀ i m σ H, W i m σ H →
  (J.stop i H ∧ D.nx σ H) ∨ (J.go i H ∧ ∃ N : St → Hp → Prop, (∀ σ' H', N σ' H' → ∃ m', m' < m ∧ W (i + 1) m' σ' H') ∧ ∀ x H', J.yld i H x H' → g x σ H' fun σ2 H2 => tb { D with nx := N, ct := N, bk := D.nx } σ2 H2)
/-- the records at fp as they stand -/
noncomputable def pinsAt (fp : List Addr) (h : Heap) : List (Addr × Obj) := fp.filterMap fun b => (h.get? b).map fun o => (b, o)
theorem mem_pinsAt {fp : List Addr} {h : Heap} {b : Addr} {o : Obj} (hb : b ∈ fp) (e : h.get? b = some o) : (b, o) ∈ pinsAt fp h := List.mem_filterMap.mpr ⟨b, hb, by rw [e]; rfl⟩
theorem of_pinsAt {fp : List Addr} {h : Heap} {p : Addr × Obj} (hp : p ∈ pinsAt fp h) : p.1 ∈ fp ∧ h.get? p.1 = some p.2 := by
  obtain ⟨b, hb, e⟩ := List.mem_filterMap.mp hp
  cases q : h.get? b with
  | none => rw [q] at e; cases e
  | some o =>
    rw [q] at e
    have e' : (b, o) = p := Option.some.inj e
    subst e'
    exact ⟨hb, q⟩
theorem Inv.pinned {pins : List (Addr × Obj)} {σ : St} {H : Hp} {s : Shared} {fp : List Addr} (I : Inv X pins σ H s) (hf : ∀ b ∈ fp, FpOk X pins H b) (ho : ∀ b ∈ fp, ∃ o, s.heap.get? b = some o ∧ ∀ v, o.data ≠ .cell v) : Inv X (pins ++ pinsAt fp s.heap) σ H s :=
  I.pins_of fun p hp => (List.mem_append.mp hp).elim (fun z => I.pin p (List.mem_append_right _ z)) fun z => by
    obtain ⟨hb, e⟩ := of_pinsAt z
    obtain ⟨f0, f1, f2, _⟩ := hf p.1 hb
    obtain ⟨o, e', d⟩ := ho p.1 hb
    rw [e] at e'; cases e'
    exact ⟨e, f0, f1, f2, d⟩
theorem Inv.unpinned {pins pl : List (Addr × Obj)} {σ : St} {H : Hp} {s : Shared} (I : Inv X (pins ++ pl) σ H s) : Inv X pins σ H s := I.pins_of fun p hp => I.pin p (List.mem_append_right _ (List.mem_append_left _ hp))
theorem ps_for {iter : Expr} {body : List Stmt} {wi : TI} {g : TG} {tb : TS} {pos : Pos} (hp : PassesOwn (model X.prog X.w) X.A X.env X.xe) (hc : X.calm = true) (hi : PI X tg iter wi) (hg : PG X tg g) (hb : PSs X body tb)
    (hs : ∀ x, foldedSetIterable iter X.env x = pure x := by intro _; rfl) : PS X (.For tg iter body [] pos) (tFor wi g tb) := by
  intro pins s σ H D I h
  refine wpAny_For (thn (hi pins s σ H _ I h) fun v s1 h1 => thn h1 fun itv s2 h2 => ?_) hs
  obtain ⟨it, fp, tn, J, H2, e, I2, T, st2, f2, W, ⟨m0, w0⟩, turn⟩ := h2
  subst e
  -- what stays true of the iterator's objects through the loop
  have stat : ∀ {H' : Hp}, (∀ b ∈ fp, H' b = none) → ∀ b ∈ fp, FpOk X pins H' b := fun hn b hb => ⟨hn b hb, (f2 b hb).2⟩
  refine codeAny_forLoop_any (fun n s' => ∃ i σ' H', Inv X pins σ' H' s' ∧ tn i s'.heap ∧ (∀ b ∈ fp, H' b = none) ∧ W i n σ' H') ?_ m0 ⟨0, σ, H2, I2, st2, fun b hb => (f2 b hb).1, w0⟩
  rintro n s3 ⟨i, σ3, H3, I3, st3, fr3, w3⟩
  rcases turn i n σ3 H3 w3 with ⟨stop, qn⟩ | ⟨go, N, hN, step⟩
  · refine wpAny_passesOwn hp (thn (T.done X rfl rfl rfl hc i pins s3 σ3 H3 X.xe I3 (stat fr3) st3 stop) fun r s4 ⟨hr, I4⟩ => ?_)
    subst hr
    exact wpAny_execs_nil ⟨σ3, H3, I4, qn⟩
  · refine wpAny_passesOwn hp (thn (T.item X rfl rfl rfl hc i pins s3 σ3 H3 X.xe I3 (stat fr3) st3 go) fun r s4 ⟨u, hr, h4⟩ => ?_)
    subst hr
    refine wpAny_passesOwn hp (thn h4 fun _ s5 ⟨x, H5, I5, r5, y5, st5, fr5⟩ => ?_)
    have I5' := I5.pinned (stat fr5) (T.obj _ _ st5)
    refine wpAny_passesOwn hp (thn (hg _ s5 σ3 H5 x u _ I5' r5 (step x H5 y5)) fun _ s6 ⟨σ6, H6, I6, q6⟩ => ?_)
    refine wpAny_passesOwn hp (thn (hb _ s6 σ6 H6 _ I6 q6) fun f s7 q7 => ?_)
    have again : ∀ {σ7 : St} {H7 : Hp}, Inv X (pins ++ pinsAt fp s5.heap) σ7 H7 s7 → N σ7 H7 → ∃ m, m < n ∧ ∃ i σ' H', Inv X pins σ' H' s7 ∧ tn i s7.heap ∧ (∀ b ∈ fp, H' b = none) ∧ W i m σ' H' := fun {σ7 H7} I7 n7 => by
      obtain ⟨m', hm, w7⟩ := hN σ7 H7 n7
      refine ⟨m', hm, i + 1, σ7, H7, I7.unpinned, T.keep _ _ _ st5 fun b hb o e => (I7.pin (b, o) (List.mem_append_right _ (List.mem_append_right _ (mem_pinsAt hb e)))).1, fun b hb => ?_, w7⟩
      obtain ⟨o, e, d⟩ := T.obj _ _ st5 b hb
      exact (I7.pin (b, o) (List.mem_append_right _ (List.mem_append_right _ (mem_pinsAt hb e)))).2.1
    cases f with
    | next => obtain ⟨σ7, H7, I7, n7⟩ := q7; exact again I7 n7
    | cont => obtain ⟨σ7, H7, I7, n7⟩ := q7; exact again I7 n7
    | brk => obtain ⟨σ7, H7, I7, q7⟩ := q7; exact ⟨σ7, H7, I7.unpinned, q7⟩
    | ret v => obtain ⟨x7, σ7, H7, I7, r7, q7⟩ := q7; exact ⟨x7, σ7, H7, I7.unpinned, r7, q7⟩
end

end L2

namespace L2
open PySem PySem.Spec PyProof.Rows

noncomputable abbrev R2 := V → V → Hp → VK → Prop
/-- a two-place operation on values: f is binaryOp op, inplaceOp op or compareOp op -/
noncomputable def OpR (X : Cx) (f : Value → Value → Sem Value) (r : R2) : Prop :=
  ∀ (pins : List (Addr × Obj)) (s : Shared) (σ : St) (H : Hp) (x y : V) (v u : Value) (Q : VK), Inv X pins σ H s → RelV x v → RelV y u → r x y H Q →
    wpAny (model X.prog X.w) X.A (f v u) (EP X pins σ Q) X.xe s
/-- a one-place operation -/
noncomputable def UnR (X : Cx) (f : Value → Sem Value) (r : V → Hp → VK → Prop) : Prop :=
  ∀ (pins : List (Addr × Obj)) (s : Shared) (σ : St) (H : Hp) (x : V) (v : Value) (Q : VK), Inv X pins σ H s → RelV x v → r x H Q →
    wpAny (model X.prog X.w) X.A (f v) (EP X pins σ Q) X.xe s
/-- a call of a value that is known (a builtin, a type) with values -/
noncomputable def CallR (X : Cx) (f : Value) (r : List V → Hp → VK → Prop) : Prop :=
  ∀ (pins : List (Addr × Obj)) (s : Shared) (σ : St) (H : Hp) (xs : List V) (us : List Value) (Q : VK), Inv X pins σ H s → Vals xs us → r xs H Q →
    wpAny (model X.prog X.w) X.A (call f us) (EP X pins σ Q) X.xe s
noncomputable abbrev tOp (r : R2) (ta tb : TE) : TE := fun σ H Q => ta σ H fun x H1 => tb σ H1 fun y H2 => r x y H2 Q
noncomputable abbrev tUn (r : V → Hp → VK → Prop) (ta : TE) : TE := fun σ H Q => ta σ H fun x H1 => r x H1 Q
/-- ints in, under C, and a value out -/
noncomputable def rI (C : Int → Int → Prop) (g : Int → Int → V) : R2 := fun x y H Q => ∃ i j, x = .int i ∧ y = .int j ∧ C i j ∧ Q (g i j) H
noncomputable def rI0 (g : Int → Int → V) : R2 := fun x y H Q => ∃ i j, x = .int i ∧ y = .int j ∧ Q (g i j) H
noncomputable def rU (g : Int → V) : V → Hp → VK → Prop := fun x H Q => ∃ i, x = .int i ∧ Q (g i) H

section
variable {X : Cx} {a b c : Expr} {ta tb tc : TE} {pos : Pos}

theorem binT (ha : PE X a ta) (hb : PE X b tb) {pins : List (Addr × Obj)} {s : Shared} {σ : St} {H : Hp} {R : V → V → Hp → Prop} (I : Inv X pins σ H s)
    (h : ta σ H fun x H1 => tb σ H1 fun y H2 => R x y H2) {Q : Value → Shared → Prop} {f : Value → Value → Sem Value}
    (hf : ∀ v u s2 x y H2, Inv X pins σ H2 s2 → RelV x v → RelV y u → R x y H2 → wpAny (model X.prog X.w) X.A (f v u) Q X.xe s2) :
    wpAny (model X.prog X.w) X.A (eval a X.env) (fun v s₁ => wpAny (model X.prog X.w) X.A (eval b X.env) (fun u s₂ => wpAny (model X.prog X.w) X.A (f v u) Q X.xe s₂) X.xe s₁) X.xe s := by
  refine thn (ha pins s σ H _ I h) fun v s1 ⟨x, H1, I1, r1, q1⟩ => ?_
  refine thn (hb pins s1 σ H1 _ I1 q1) fun u s2 ⟨y, H2, I2, r2, q2⟩ => ?_
  exact hf v u s2 x y H2 I2 r1 r2 q2

theorem pe_op {op : Operator} {r : R2} (ho : OpR X (binaryOp op) r) (ha : PE X a ta) (hb : PE X b tb) : PE X (.BinOp a op b pos) (tOp r ta tb) := by
  intro pins s σ H Q I h
  exact wpAny_BinOp (binT ha hb I h fun v u s2 x y H2 I2 rx ry q => ho pins s2 σ H2 x y v u Q I2 rx ry q)
theorem pe_un {op : UnaryOp} {r : V → Hp → VK → Prop} (ho : UnR X (unaryOp op) r) (ha : PE X a ta) : PE X (.UnaryOp op a pos) (tUn r ta) := by
  intro pins s σ H Q I h
  exact UnaryOp_ (thn (ha pins s σ H _ I h) fun v s1 ⟨x, H1, I1, r1, q1⟩ => ho pins s1 σ H1 x v Q I1 r1 q1)
/-! ### ints -/
theorem opI {f : Value → Value → Sem Value} {C : Int → Int → Prop} {g : Int → Int → Int}
    (rule : ∀ (i j : Int) (t u : Tok) (s : Shared) (Q : Value → Shared → Prop) (E : Value → Shared → Prop), C i j → Q (.int (g i j) s.toks) { s with toks := s.toks + 1 } → wpAny (model X.prog X.w) X.A (f (.int i t) (.int j u)) Q E s) :
    OpR X f (rI C fun i j => .int (g i j)) := by
  intro pins s σ H x y v u Q I rx ry h
  obtain ⟨i, j, rfl, rfl, hc, q⟩ := h
  obtain ⟨t, rfl⟩ := rx
  obtain ⟨t', rfl⟩ := ry
  exact rule i j t t' s _ _ hc ⟨.int (g i j), H, I.tok _, ⟨_, rfl⟩, q⟩
theorem opI0 {f : Value → Value → Sem Value} {g : Int → Int → Int}
    (rule : ∀ (i j : Int) (t u : Tok) (s : Shared) (Q : Value → Shared → Prop) (E : Value → Shared → Prop), Q (.int (g i j) s.toks) { s with toks := s.toks + 1 } → wpAny (model X.prog X.w) X.A (f (.int i t) (.int j u)) Q E s) :
    OpR X f (rI0 fun i j => .int (g i j)) := by
  intro pins s σ H x y v u Q I rx ry h
  obtain ⟨i, j, rfl, rfl, q⟩ := h
  obtain ⟨t, rfl⟩ := rx
  obtain ⟨t', rfl⟩ := ry
  exact rule i j t t' s _ _ ⟨.int (g i j), H, I.tok _, ⟨_, rfl⟩, q⟩
theorem opB0 {f : Value → Value → Sem Value} {g : Int → Int → Bool}
    (rule : ∀ (i j : Int) (t u : Tok) (s : Shared) (Q : Value → Shared → Prop) (E : Value → Shared → Prop), Q (.bool (g i j)) s → wpAny (model X.prog X.w) X.A (f (.int i t) (.int j u)) Q E s) :
    OpR X f (rI0 fun i j => .bl (g i j)) := by
  intro pins s σ H x y v u Q I rx ry h
  obtain ⟨i, j, rfl, rfl, q⟩ := h
  obtain ⟨t, rfl⟩ := rx
  obtain ⟨t', rfl⟩ := ry
  exact rule i j t t' s _ _ ⟨.bl (g i j), H, I, rfl, q⟩

theorem op_add : OpR X (binaryOp .Add) (rI0 fun i j => .int (i + j)) := opI0 fun _ _ _ _ _ _ _ q => add_int q
theorem op_sub : OpR X (binaryOp .Sub) (rI0 fun i j => .int (i - j)) := opI0 fun _ _ _ _ _ _ _ q => sub_int q
theorem op_modN : OpR X (binaryOp .Mod) (rI (fun _ j => j ≠ 0) fun i j => .int (i.fmod j)) := opI fun _ _ _ _ _ _ _ hc q => mod_int' hc q
theorem unI {f : Value → Sem Value} {g : Int → Int}
    (rule : ∀ (i : Int) (t : Tok) (s : Shared) (Q : Value → Shared → Prop) (E : Value → Shared → Prop), Q (.int (g i) s.toks) { s with toks := s.toks + 1 } → wpAny (model X.prog X.w) X.A (f (.int i t)) Q E s) :
    UnR X f (rU fun i => .int (g i)) := by
  intro pins s σ H x v Q I rx h
  obtain ⟨i, rfl, q⟩ := h
  obtain ⟨t, rfl⟩ := rx
  exact rule i t s _ _ ⟨.int (g i), H, I.tok _, ⟨_, rfl⟩, q⟩
theorem un_neg : UnR X (unaryOp .USub) (rU fun i => .int (-i)) := unI fun _ _ _ _ _ q => neg_int q
end

section
variable {X : Cx} {a b c : Expr} {ta tb tc : TE} {pos : Pos}
theorem fin_bl {pins : List (Addr × Obj)} {σ : St} {H : Hp} {s : Shared} {Q : VK} {k k' : Bool} (I : Inv X pins σ H s) (q : Q (.bl k) H) (e : k = k') : EP X pins σ Q (.bool k') s := by
  subst e
  exact ⟨.bl k, H, I, rfl, q⟩
theorem op_lt : OpR X (compareOp .Lt) (rI0 fun i j => .bl (decide (i < j))) := opB0 fun _ _ _ _ _ _ _ q => lt_int q
theorem op_gt : OpR X (compareOp .Gt) (rI0 fun i j => .bl (decide (j < i))) := opB0 fun _ _ _ _ _ _ _ q => gt_int q
/-- is None, is not None: the right side a value none -/
theorem op_isN : OpR X (compareOp .Is) (fun x y H Q => y = .non ∧ Q (.bl (decide (x = .non))) H) := by
  intro pins s σ H x y v u Q I rx ry h
  obtain ⟨rfl, q⟩ := h
  cases ry
  refine is_none_gen (fin_bl I q ?_)
  cases x <;> first
    | (cases rx; rfl)
    | (obtain ⟨t, rfl⟩ := rx; rfl)
/-- two rules for one operation: by cases -/
theorem OpR.or {f : Value → Value → Sem Value} {r r' : R2} (h : OpR X f r) (h' : OpR X f r') : OpR X f (fun x y H Q => r x y H Q ∨ r' x y H Q) := by
  intro pins s σ H x y v u Q I rx ry q
  rcases q with q | q
  · exact h pins s σ H x y v u Q I rx ry q
  · exact h' pins s σ H x y v u Q I rx ry q

theorem nomark (b : Expr) {op : CmpOp} (h : op ≠ .In := by decide) (h2 : op ≠ .NotIn := by decide) : behindInMarks op b = false := by
  have e1 : (op == CmpOp.In) = false := by cases op <;> first | rfl | exact absurd rfl h
  have e2 : (op == CmpOp.NotIn) = false := by cases op <;> first | rfl | exact absurd rfl h2
  cases b <;> simp [behindInMarks, e1, e2]
/-- a comparison as a value; hm: nomark b, or (for in, not in) by with_unfolding_all rfl -/
theorem pe_cmpR {op : CmpOp} {r : R2} (ho : OpR X (compareOp op) r) (ha : PE X a ta) (hb : PE X b tb) (hm : behindInMarks op b = false) : PE X (.Compare a [op] [b] pos) (tOp r ta tb) := by
  intro pins s σ H Q I h
  exact wpAny_Compare1 (binT ha hb I h fun v u s2 x y H2 I2 rx ry q => ho pins s2 σ H2 x y v u Q I2 rx ry q) hm
/-- a reading of a value as a test -/
noncomputable abbrev tTest (t : TE) : TT := fun σ H Q => t σ H fun x H' => ∃ k, x = .bl k ∧ Q k H'
theorem pt_cmpR {op : CmpOp} {r : R2} (ho : OpR X (compareOp op) r) (ha : PE X a ta) (hb : PE X b tb) (hm : behindInMarks op b = false) : PT X (.Compare a [op] [b] pos) (tTest (tOp r ta tb)) := by
  intro pins s σ H Q I h
  refine wpAny_isTrue_Compare1 (thn (ha pins s σ H _ I h) fun v s1 ⟨x, H1, I1, r1, q1⟩ => thn (hb pins s1 σ H1 _ I1 q1) fun u s2 ⟨y, H2, I2, r2, q2⟩ =>
    thn (ho pins s2 σ H2 x y v u _ I2 r1 r2 q2) fun c s3 ⟨z, H3, I3, r3, k, e, q3⟩ => ?_) hm
  subst e
  cases r3
  exact wpAny_truthy_bool ⟨H3, I3, q3⟩
theorem line63 : (sizeLine : Nat) < 2 ^ 63 := by rw [sizeLine_eq]; decide
/-! ### scalar builtins, by CallR -/
theorem vals1 {x : V} {us : List Value} (r : Vals [x] us) : ∃ u, us = [u] ∧ RelV x u := by
  cases r with
  | cons r1 r2 => cases r2; exact ⟨_, rfl, r1⟩
theorem vals2 {x y : V} {us : List Value} (r : Vals [x, y] us) : ∃ u w', us = [u, w'] ∧ RelV x u ∧ RelV y w' := by
  cases r with
  | cons r1 r2 =>
    cases r2 with
    | cons r3 r4 => cases r4; exact ⟨_, _, rfl, r1, r3⟩
theorem call_min2 (hc : X.calm = true) : CallR X (.builtin "min") (fun xs H Q => ∃ i j, xs = [.int i, .int j] ∧ Q (.int (if j < i then j else i)) H) := by
  intro pins s σ H xs us Q I r h
  obtain ⟨i, j, rfl, q⟩ := h
  obtain ⟨u, w', rfl, ⟨t, rfl⟩, ⟨t', rfl⟩⟩ := vals2 r
  refine min_two_ints (I.ok.hd hc) fun h' tk k => ⟨_, H, I.kept k, ?_, q⟩
  by_cases hj : j < i
  · rw [if_pos hj, if_pos hj]; exact ⟨_, rfl⟩
  · rw [if_neg hj, if_neg hj]; exact ⟨_, rfl⟩
end
end L2

namespace L2
open PySem PySem.Spec PyProof.Rows

section
variable {prog : Program} {w : World} {A : Around} {E : Value → Shared → Prop} {s : Shared} {K : PySem.W.Frag} {x dx C f : Addr} {mA : Str → Option Value} {name : Str} {v : Value}

end

section
variable {P : Program} {w : World} {H H' : Hp} {h h' : Heap} {a C dx : Addr} {fs fs' : List (Str × V)}
end

/-! ### what of the text a class must have -/
structure Cls (K : PySem.W.Frag) (C : Addr) : Prop where
  pg : PySem.W.plainGet K C Str.empty = true
  hd : PySem.W.hasDictIn K C = true
  po : PySem.W.plainOver K C = true
  sa : PySem.W.findIn K (.ref C) "__setattr__" = some (some (.builtin "object.__setattr__"))
theorem Cls.get {K : PySem.W.Frag} {C : Addr} (c : Cls K C) (f : Str) : PySem.W.plainGet K C f = true := c.pg
section
variable {X : Cx} {pins : List (Addr × Obj)} {σ : St} {H : Hp} {s : Shared} {a C dx : Addr} {fs : List (Str × V)} {f : Str} {v : V} {A : Around} {E : Value → Shared → Prop}

end

section
variable {X : Cx} {o e value : Expr} {f : Str} {pos pos' tpos : Pos} {ta tv : TE}
end

/-! ### isinstance -/
section
variable {X : Cx} {pins : List (Addr × Obj)} {σ : St} {H : Hp} {s : Shared} {A : Around} {E : Value → Shared → Prop} {Q : Value → Shared → Prop} {c : Value} {b : Bool}
end
end L2

namespace L2
open PySem PySem.Spec PyProof.Rows

/-! ### room -/
structure Room (k : Nat) (A : Around) : Prop where
  hd : A.handled = none
  dp : A.depth + 3 * k + 5 < recursionLimit
  un : A.units + 16 * k + 200 < cLine
theorem Room.mono {j k : Nat} {A : Around} (r : Room k A) (h : j ≤ k) : Room j A := ⟨r.hd, by have := r.dp; omega, by have := r.un; omega⟩
theorem Room.deeper {k : Nat} {A : Around} (r : Room (k + 1) A) (env : Env) : Room k (A.deeper env) :=
  ⟨r.hd, by have := r.dp; show A.depth + 1 + 3 * k + 5 < _; omega, by have := r.un; show A.units + 3 + 16 * k + 200 < _; omega⟩
theorem Room.depth {k : Nat} {A : Around} (r : Room k A) : A.depth < recursionLimit := by have := r.dp; omega
theorem Room.units {k : Nat} {A : Around} (r : Room k A) : A.units + 64 < cLine := by have := r.un; omega
/-! ### argument lists and displays -/
noncomputable abbrev tNil : TA := fun _ H Q => Q [] H
noncomputable abbrev tCons (ta : TE) (tr : TA) : TA := fun σ H Q => ta σ H fun x H1 => tr σ H1 fun xs H2 => Q (x :: xs) H2
section
variable {X : Cx} {e : Expr} {es : List Expr} {te : TE} {t : TA} {pos : Pos}
theorem pa_nil : PA X [] tNil := fun _ _ _ _ H Q I h => Calls.spliced_nil ⟨[], H, I, .nil, h⟩
theorem pa_cons (ha : PE X e te) (hr : PA X es t) (hs : starEach (e :: es) X.env = (false, eval e X.env) :: starEach es X.env := by rfl) : PA X (e :: es) (tCons te t) := by
  intro pos pins s σ H Q I h
  rw [hs]
  show wpAny _ _ (spliced ((false, eval e X.env) :: backTo pos (starEach es X.env))) _ _ s
  refine Calls.spliced_cons (thn (ha pins s σ H _ I h) fun u s1 ⟨x, H1, I1, r1, q1⟩ => ?_)
  exact thn (hr pos pins s1 σ H1 _ I1 q1) fun us s2 ⟨xs, H2, I2, r2, q2⟩ => ⟨x :: xs, H2, I2, .cons r1 r2, q2⟩

/-- a tuple, a list of written items -/
noncomputable abbrev tTup (t : TA) : TE := fun σ H Q => t σ H fun xs H1 => xs.length ≤ sizeLine ∧ ∀ p, H1 p = none → Q (.ref p) (upd H1 p (.tup xs))
noncomputable abbrev tLst (t : TA) : TE := fun σ H Q => t σ H fun xs H1 => xs.length ≤ sizeLine ∧ ∀ p, H1 p = none → Q (.ref p) (upd H1 p (.lst xs))
theorem pe_tup {x1} (h : PA X es t) : PE X (.Tuple es x1 pos) (tTup t) := by
  intro pins s σ H Q I hq
  refine wpAny_Tuple_spliced (thn (h pos pins s σ H _ I hq) fun us s1 ⟨xs, H1, I1, r, z, q⟩ => ⟨by rw [← r.length]; exact z, ?_⟩)
  have hf : H1 s1.heap.objs.size = none := I1.hok.fresh (Nat.le_refl _)
  refine ⟨.ref s1.heap.objs.size, upd H1 s1.heap.objs.size (.tup xs), I1.laid (t' := s1.toks) (fun b u e => Heap.get?_push_of_some _ e) (Nat.le_refl _) ?_, rfl, q _ hf⟩
  exact ⟨z, us, r, ⟨_, Heap.get?_push_size _ rfl, rfl, _, rfl⟩⟩
theorem pe_lst (h : PA X es t) : PE X (.List es pos) (tLst t) := by
  intro pins s σ H Q I hq
  refine wpAny_List_spliced (thn (h pos pins s σ H _ I hq) fun us s1 ⟨xs, H1, I1, r, z, q⟩ => ⟨by rw [← r.length]; exact z, ?_⟩)
  have hf : H1 s1.heap.objs.size = none := I1.hok.fresh (Nat.le_refl _)
  refine ⟨.ref s1.heap.objs.size, upd H1 s1.heap.objs.size (.lst xs), I1.laid (t' := s1.toks) (fun b u e => Heap.get?_push_of_some _ e) (Nat.le_refl _) ?_, rfl, q _ hf⟩
  exact ⟨z, us, 0, r, Heap.get?_push_size _ rfl⟩
end

/-! ### what a def promises -/
/-- a def's promise: the bound arguments in the parameters' order, the heap, the wanted end, the wanted exception -/
noncomputable abbrev Sp := List V → Hp → VK → XK → Prop
/-- how an exception lies behind a call (file 08 gives it): the callers' frames, abstract heap and state ahead of the call, the wish, the exception, the state -/
noncomputable abbrev CXT := List Env → Hp → Shared → XK → Value → Shared → Prop

/-- the state at a call -/
structure Env0 (P : Program) (w : World) (K : PySem.W.Frag) (mg : Str → Option Value) (base : Heap) (A : Around) (outer : List Env) (s : Shared) (H : Hp) : Prop where
  frames : A.frames = some outer
  mod : Mod K mg base
  bs : ∀ b o, base.get? b = some o → s.heap.get? b = some o ∧ H b = none
  bsz : base.objs.size ≤ s.heap.objs.size
  funs : s.heap.FunFrames base outer
  frf : ∀ b ∈ frs outer, H b = none
  hok : HOk P w H s.heap
  bare : AllBare s.gens
/-- a call's end -/
noncomputable def CE (outer : List Env) (P : Program) (w : World) (H : Hp) (s : Shared) (Q : VK) (u : Value) (s' : Shared) : Prop :=
  ∃ v H', s'.os = s.os ∧ AllBare s'.gens ∧ Un (frs outer) [] H H' s.heap s'.heap ∧ HOk P w H' s'.heap ∧ RelV v u ∧ Q v H'
noncomputable def CR (CX : CXT) (outer : List Env) (P : Program) (w : World) (H : Hp) (s : Shared) (Q : VK) (E : XK) (r : Result) (s' : Shared) : Prop :=
  match r with
  | .ok (.ret u) => CE outer P w H s Q u s'
  | .ok _ => False
  | .error e => CX outer H s E e s'
structure FnOk (P : Program) (w : World) (K : PySem.W.Frag) (mg : Str → Option Value) (base : Heap) (CX : CXT) (k : Nat) (f : Addr) (fd : FuncData) (ps : List Str) (sp : Sp) : Prop where
  len : ∀ vs H Q E, sp vs H Q E → vs.length = ps.length
  run : ∀ (A : Around) (outer : List Env) (s : Shared) (H : Hp) (args : Args) (us : List Value) (vs : List V) (Q : VK) (E : XK), Room k A → Env0 P w K mg base A outer s H → BindsTo s fd args (ps.zip us) → Vals vs us → sp vs H Q E →
    codeAny (model P w) A (.call (.ref f) args) (CR CX outer P w H s Q E) s
theorem FnOk.mono {P : Program} {w : World} {K : PySem.W.Frag} {mg : Str → Option Value} {base : Heap} {CX : CXT} {j k : Nat} {f : Addr} {fd : FuncData} {ps : List Str} {sp : Sp} (F : FnOk P w K mg base CX j f fd ps sp) (h : j ≤ k) :
    FnOk P w K mg base CX k f fd ps sp := ⟨F.len, fun A outer s H args us vs Q E hr => F.run A outer s H args us vs Q E (hr.mono h)⟩
/-- a weaker promise -/
theorem FnOk.imp {P : Program} {w : World} {K : PySem.W.Frag} {mg : Str → Option Value} {base : Heap} {CX : CXT} {k : Nat} {f : Addr} {fd : FuncData} {ps : List Str} {sp sp' : Sp} (F : FnOk P w K mg base CX k f fd ps sp)
    (h : ∀ vs H Q E, sp' vs H Q E → sp vs H Q E) : FnOk P w K mg base CX k f fd ps sp' :=
  ⟨fun vs H Q E q => F.len vs H Q E (h _ _ _ _ q), fun A outer s H args us vs Q E hr he hb hv hs => F.run A outer s H args us vs Q E hr he hb hv (h _ _ _ _ hs)⟩

section
variable {X : Cx} {pins : List (Addr × Obj)} {σ : St} {H : Hp} {s s' : Shared}
/-- from a body: what a callee wants -/
theorem Inv.env0 (I : Inv X pins σ H s) : Env0 X.prog X.w X.K X.mg X.base X.A X.stack s H :=
  ⟨I.ok.frames, I.ok.mod, I.bs, Nat.le_trans I.ok.bsz I.sz, I.stack, I.stkFree, I.hok, I.bare⟩
/-- behind a call -/
theorem Inv.after {Q : VK} {u : Value} (I : Inv X pins σ H s) (h : CE X.stack X.prog X.w H s Q u s') : EP X pins σ Q u s' := by
  obtain ⟨v, H', os, bare, un, hok, r, q⟩ := h
  obtain ⟨hh, g, d, t, os'⟩ := s'
  obtain rfl : os' = s.os := os
  exact ⟨v, H', I.call (h' := hh) (g' := g) (d' := d) (t' := t) (ch := []) un hok bare (fun b z => absurd z (by simp)), r, q⟩
end

/-! ### calls -/
/-- f(..): the written arguments, then the defaults dvs; E: what is wanted of an exception -/
noncomputable abbrev tCall (sp : Sp) (dvs : List V) (E : XK) (t : TA) : TE := fun σ H Q => t σ H fun vs H1 => sp (vs ++ dvs) H1 Q E
/-- how the parameters are bound: us the positional arguments, kw the keywords' values by name, ds the defaults that fill up -/
noncomputable def Binds (K : PySem.W.Frag) (fd : FuncData) (ps : List Str) (ds : List Value) : Prop :=
  ∀ (s : Shared) (us : List Value), K.In s.heap → (us ++ ds).length = ps.length → BindsTo s fd ⟨us, []⟩ (ps.zip (us ++ ds))
/-- every parameter is given -/
theorem Binds.all {K : PySem.W.Frag} {fd : FuncData} {ps : List Str} (h : ∀ us : List Value, us.length = ps.length → bindArgs fd ⟨us, []⟩ = pure (ps.zip us)) : Binds K fd ps [] := fun s us _ hl => by
  rw [List.append_nil] at hl ⊢
  exact .of_eq (h us hl)

/-- an exception of a callee reaches what this body wants of exceptions -/
noncomputable def Passes (CX : CXT) (X : Cx) (E : XK) : Prop := ∀ (pins : List (Addr × Obj)) (σ : St) (H : Hp) (s : Shared) (e : Value) (s' : Shared), Inv X pins σ H s → CX X.stack H s E e s' → X.xe e s'

section
variable {X : Cx} {CX : CXT} {k : Nat} {f C : Addr} {fd : FuncData} {ps : List Str} {sp : Sp} {dvs : List V} {ds : List Value} {E : XK} {x m : Str} {p pos apos : Pos} {e o : Expr} {es : List Expr} {ta : TE} {t : TA}

/-- the callee runs -/
theorem run_fn {pins : List (Addr × Obj)} {σ : St} {H : Hp} {s : Shared} {Q : VK} {us : List Value} {vs : List V} (F : FnOk X.prog X.w X.K X.mg X.base CX k f fd ps sp) (hr : Room k X.A) (hb : Binds X.K fd ps ds) (hd : Vals dvs ds) (hx : Passes CX X E)
    (I : Inv X pins σ H s) (r : Vals vs us) (h : sp (vs ++ dvs) H Q E) : wpAny (model X.prog X.w) X.A (call (.ref f) us) (EP X pins σ Q) X.xe s := by
  have r2 : Vals (vs ++ dvs) (us ++ ds) := r.append hd
  have hl : (us ++ ds).length = ps.length := by rw [← r2.length]; exact F.len _ _ _ _ h
  refine wpAny_call (codeAny_mono (F.run X.A X.stack s H ⟨us, []⟩ (us ++ ds) (vs ++ dvs) Q E hr I.env0 (hb s us I.kIn hl) r2 h) fun r s' hq => ?_)
  cases r with
  | error e => exact hx pins σ H s e s' I hq
  | ok fl =>
    cases fl with
    | ret u => exact I.after hq
    | next => exact False.elim hq
    | brk => exact False.elim hq
    | cont => exact False.elim hq

theorem pe_call (F : FnOk X.prog X.w X.K X.mg X.base CX k f fd ps sp) (hr : Room k X.A) (hg : Gl X x) (hm : X.mg x = some (.ref f)) (hk : PySem.W.keepIn X.K (.ref f) = true) (hb : Binds X.K fd ps ds) (hd : Vals dvs ds) (hx : Passes CX X E)
    (ha : PA X (e :: es) t) (hdb : (x == ("__debug__" : Str)) = false := by decide) (he : starEach (e :: es) X.env = (false, eval e X.env) :: starEach es X.env := by rfl) (hpl : (backTo pos (starEach es X.env)).any (·.1) = false := by rfl) :
    PE X (.Call (.Name x p) (e :: es) [] pos) (tCall sp dvs E t) := by
  intro pins s σ H Q I h
  refine wpAny_Call_Name_kw (ld_glob I hg hm ?_ hdb)
  refine PySem.W.callWith_K (h₀ := X.base) I.ok.mod.kin hk (thn (ha pos pins s σ H _ I h) fun us s1 ⟨vs, H1, I1, r, q⟩ => ⟨I1.kIn, ?_⟩) he hpl
  exact run_fn F hr hb hd hx I1 r q
end

section
variable {X : Cx} {CX : CXT} {k : Nat} {f C : Addr} {fd : FuncData} {ps ks : List Str} {sp : Sp} {E : XK} {x m : Str} {p pos apos kpos : Pos} {e o : Expr} {es : List Expr} {kws : List Keyword} {te ta : TE} {t tk : TA} {nm : Option Str}
variable {g : List Value → List Value → List Value} {gV : List V → List V → List V}
end

/-! ### a def's body keeps its promise -/
/-- names: the parameters first -/
structure FnScope (N P : List Str) (sc : Scope) : Prop where
  kind : sc.kind = .function
  co : sc.isCoroutine = false
  gen : sc.isGenerator = false
  nd : N.Nodup
  pre : N.take P.length = P
  par : ∀ x ∈ P, sc.names.lookup x = some .local ∨ sc.names.lookup x = some .cell
  nofree : ∀ y ∈ sc.names, y.2 ≠ .free

theorem bindL_out {kindOf : Str → Option NameKind} {x : Str} : ∀ {binds : List (Str × Value)} {m : Str → Option Value}, (∀ v, (x, v) ∉ binds) → bindL kindOf binds m x = m x
  | [], _, _ => rfl
  | (n, v) :: r, m, h => by
    unfold bindL
    rw [bindL_out fun w hw => h w (List.mem_cons_of_mem _ hw)]
    split
    · have : x ≠ n := by rintro rfl; exact h v List.mem_cons_self
      simp [this]
    · rfl
theorem bindC_out {kindOf : Str → Option NameKind} {x : Str} : ∀ {binds : List (Str × Value)} {m : Str → Option Value}, (∀ v, (x, v) ∉ binds) → bindC kindOf binds m x = m x
  | [], _, _ => rfl
  | (n, v) :: r, m, h => by
    unfold bindC
    rw [bindC_out fun w hw => h w (List.mem_cons_of_mem _ hw)]
    split
    · rfl
    · have : x ≠ n := by rintro rfl; exact h v List.mem_cons_self
      simp [this]
theorem bindL_get {kindOf : Str → Option NameKind} {x : Str} {v : Value} : ∀ {P : List Str} {vs : List Value} {i : Nat} {m : Str → Option Value}, P.Nodup → P[i]? = some x → vs[i]? = some v → kindOf x = some .local →
    bindL kindOf (P.zip vs) m x = some v
  | [], _, _, _, _, h, _, _ => by simp at h
  | _ :: _, [], _, _, _, _, h, _ => by simp at h
  | p :: P, w :: vs, 0, m, nd, h1, h2, hk => by
    simp at h1 h2; subst h1; subst h2
    show bindL kindOf ((p, w) :: P.zip vs) m p = _
    unfold bindL
    rw [bindL_out fun v hv => (List.nodup_cons.mp nd).1 (List.of_mem_zip hv).1, if_pos hk]
    simp
  | p :: P, w :: vs, i + 1, m, nd, h1, h2, hk => by
    show bindL kindOf ((p, w) :: P.zip vs) m x = _
    unfold bindL
    exact bindL_get (i := i) (List.nodup_cons.mp nd).2 (by simpa using h1) (by simpa using h2) hk
theorem bindC_get {kindOf : Str → Option NameKind} {x : Str} {v : Value} : ∀ {P : List Str} {vs : List Value} {i : Nat} {m : Str → Option Value}, P.Nodup → P[i]? = some x → vs[i]? = some v → kindOf x ≠ some .local →
    bindC kindOf (P.zip vs) m x = some v
  | [], _, _, _, _, h, _, _ => by simp at h
  | _ :: _, [], _, _, _, _, h, _ => by simp at h
  | p :: P, w :: vs, 0, m, nd, h1, h2, hk => by
    simp at h1 h2; subst h1; subst h2
    show bindC kindOf ((p, w) :: P.zip vs) m p = _
    unfold bindC
    rw [bindC_out fun v hv => (List.nodup_cons.mp nd).1 (List.of_mem_zip hv).1, if_neg hk]
    simp
  | p :: P, w :: vs, i + 1, m, nd, h1, h2, hk => by
    show bindC kindOf ((p, w) :: P.zip vs) m x = _
    unfold bindC
    exact bindC_get (i := i) (List.nodup_cons.mp nd).2 (by simpa using h1) (by simpa using h2) hk

/-- the names' values at the entry -/
noncomputable def start (N : List Str) (vs : List V) : St := vs.map some ++ List.replicate (N.length - vs.length) none

/-- the context of a def's body, at its entry; an exception leaves the frame, then lies as CX says -/
noncomputable def cxOf (CX : CXT) (P : Program) (w : World) (K : PySem.W.Frag) (mg : Str → Option Value) (base : Heap) (N : List Str) (qual : Str) (scope : Scope) (f : Addr) (cd : Value) (A : Around) (outer : List Env) (s : Shared) (H : Hp) (E : XK) : Cx where
  prog := P
  w := w
  K := K
  mg := mg
  base := base
  A := A.deeper (envOfC qual scope s.heap.objs.size f cd)
  N := N
  s₀ := s
  H₀ := H
  env := envOfC qual scope s.heap.objs.size f cd
  outer := outer
  stack := envOfC qual scope s.heap.objs.size f cd :: outer
  ex := []
  calm := true
  fn := fun _ => true
  pn := []
  xe := fun e s' => wpAny (model P w) (A.deeper (envOfC qual scope s.heap.objs.size f cd)) (leaving (envOfC qual scope s.heap.objs.size f cd) e) (fun _ s'' => CX outer H s E e s'') (fun e' s'' => CX outer H s E e' s'') s'

theorem cell_has {sc : Scope} {n : Nat} {x : Str} (h : sc.names.lookup x = some .cell) : ∃ c, (cellsFrom n sc.names []).lookup x = some c := by
  have q := PySem.W.cellsFrom_some sc.names n [] (.inl h)
  exact Option.isSome_iff_exists.mp q

theorem inv_start {CX : CXT} {P : Program} {w : World} {K : PySem.W.Frag} {mg : Str → Option Value} {base : Heap} {N ps : List Str} {qual : Str} {scope : Scope} {f : Addr} {cd : Value} {A : Around} {outer : List Env} {s s1 : Shared} {H : Hp} {E : XK} {us : List Value} {vs : List V}
    (S : FnScope N ps scope) (hd : A.handled = none) (e0 : Env0 P w K mg base A outer s H) (hl : vs.length = ps.length) (r : Vals vs us)
    (x : InCallC s s.heap.objs.size (bindL (envOfC qual scope s.heap.objs.size f cd).kindOf (ps.zip us) fun _ => none) (cellsFrom (s.heap.objs.size + 1) scope.names []) (bindC (envOfC qual scope s.heap.objs.size f cd).kindOf (ps.zip us) fun _ => none) s1) :
    Inv (cxOf CX P w K mg base N qual scope f cd A outer s H E) [] (start N vs) H s1 := by
  have hpl : ps.length ≤ N.length := by have := congrArg List.length S.pre; rw [List.length_take] at this; omega
  obtain ⟨h1, tk, rfl, hk⟩ := x.done
  have noA : ∀ b : Addr, b ∉ (cxOf CX P w K mg base N qual scope f cd A outer s H E).ex := fun b z => absurd (show b ∈ ([] : List Addr) from z) (by simp)
  refine ⟨⟨e0.mod, S.kind, rfl, rfl, Nat.le_refl _, fun y z c h1 h2 => ?_, fun y hy => ?_, fun y c _ h => ?_, fun _ => hd, Around.frames_deeper e0.frames, .inr ⟨rfl, rfl⟩, fun b z => absurd z (noA b), e0.bs, e0.bsz, fun b _ _ => noA b, fun b z => absurd z (noA b), e0.funs, e0.frf⟩,
    rfl, e0.bare, Un.kept hk, ⟨_, x.toInCall.ns, fun i y v h1 h2 h3 => ?_⟩, fun y c h => ⟨_, x.cell y c h⟩, e0.hok.fresh (Nat.le_refl _), fun y c h => ?_, fun p hp => absurd (show p ∈ ([] : List (Addr × Obj)) from hp) (by simp), e0.hok.kept hk, ?_⟩
  · exact name_of_addr x.apart (PySem.mem_of_lookup h1) (PySem.mem_of_lookup h2)
  · have hy : scope.names.lookup y = some .cell ∨ scope.names.lookup y = some .free := hy
    rcases hy with hy | hy
    · exact cell_has hy
    · exact absurd rfl (S.nofree _ (PySem.mem_of_lookup hy))
  · exact Nat.le_of_lt (x.above y c (PySem.mem_of_lookup h))
  · have hi : i < vs.length := by
      unfold start at h2
      by_cases hi : i < vs.length
      · exact hi
      · rw [List.getElem?_append_right (by simpa using hi)] at h2
        rw [List.getElem?_replicate] at h2
        split at h2 <;> cases h2
    have ha : vs[i]? = some v := by
      unfold start at h2
      rw [List.getElem?_append_left (by simpa using hi), List.getElem?_map] at h2
      cases e : vs[i]? with
      | none => rw [e] at h2; cases h2
      | some a => rw [e] at h2; cases h2; rfl
    obtain ⟨u, hu, rv⟩ := r.get ha
    have hp : ps[i]? = some y := by
      rw [← S.pre, List.getElem?_take_of_lt (by omega)]; exact h1
    have ndP : ps.Nodup := by rw [← S.pre]; exact S.nd.sublist (List.take_sublist _ _)
    refine ⟨u, rv, ?_⟩
    rcases S.par y (List.mem_of_getElem? hp) with k | k
    · exact .inl ⟨k, bindL_get ndP hp hu k⟩
    · obtain ⟨c, e⟩ := cell_has (n := s.heap.objs.size + 1) k
      refine .inr ⟨.inl k, c, e, ?_⟩
      have q := x.cell y c e
      rw [bindC_get ndP hp hu (by show scope.names.lookup y ≠ _; rw [k]; decide)] at q
      exact q
  · exact e0.hok.fresh (Nat.le_of_lt (x.above y c (PySem.mem_of_lookup h)))
  · unfold start
    show _ = N.length
    rw [List.length_append, List.length_map, List.length_replicate]
    omega

/-- THE RULE: a def (or a method) of the text, by its body. The body's reading t is chosen for each entry; it is run at the parameters' values -/
theorem fn_of {CX : CXT} {P : Program} {w : World} {K : PySem.W.Frag} {mg : Str → Option Value} {base : Heap} {k : Nat} {f : Addr} {name qual : Str} {params : Arguments} {body : List Stmt} {scope : Scope} {dV kV doc pm cdv ct oc : Value} {an od : Option Addr}
    {osl : Array (Option Value)} {N ps : List Str} {sp : Sp} (lk : K.lookup f = some ⟨oc, od, .func (PySem.W.fnOf name qual params body scope dV kV doc pm an cdv ct), osl⟩) (hcd : PySem.W.codeIn K cdv qual = true) (S : FnScope N ps scope)
    (len : ∀ vs H Q E, sp vs H Q E → vs.length = ps.length)
    (hbody : ∀ (A : Around) (outer : List Env) (s : Shared) (H : Hp) (vs : List V) (Q : VK) (E : XK), Room k (A.deeper (envOfC qual scope s.heap.objs.size f cdv)) → sp vs H Q E →
      ∃ t, PSs (cxOf CX P w K mg base N qual scope f cdv A outer s H E) body t ∧ t { nx := fun _ H' => Q .non H', rt := Q } (start N vs) H) :
    FnOk P w K mg base CX (k + 1) f (PySem.W.fnOf name qual params body scope dV kV doc pm an cdv ct) ps sp := by
  refine ⟨len, fun A outer s H args us vs Q E hr e0 hb r hsp => ?_⟩
  have hl := len _ _ _ _ hsp
  have KX : K.In s.heap := e0.mod.kin.keeps fun b o e => (e0.bs b o e).1
  have lim : s.heap.NoLimit := e0.mod.nolimit.keeps fun b o e => (e0.bs b o e).1
  have hkind : ∀ y ∈ ps.zip us, scope.names.lookup y.1 = some .local ∨ (scope.names.lookup y.1 = some .cell ∧ ((cellsFrom (s.heap.objs.size + 1) scope.names []).lookup y.1).isSome = true) := fun ⟨n, v⟩ hy => by
    rcases S.par n (List.of_mem_zip hy).1 with q | q
    · exact .inl q
    · exact .inr ⟨q, PySem.W.cellsFrom_some _ _ _ (.inl q)⟩
  refine codeAny_call_function hr.depth (KX _ _ lk) rfl S.co S.gen rfl (PySem.W.codeRec_of KX hcd) (hb _ _ _ _ ?_)
  refine wpAny_newFunctionEnv_cells S.kind hkind fun env he s1 x => ?_
  subst he
  refine ⟨lim.keeps x.toInCall.keep, codeAny_func ?_⟩
  obtain ⟨t, ht, hq⟩ := hbody A outer s H vs Q E (hr.deeper _) hsp
  have I : Inv (cxOf CX P w K mg base N qual scope f cdv A outer s H E) [] (start N vs) H s1 := inv_start S hr.hd e0 hl r x
  refine wpAny_mono (ht [] s1 (start N vs) H _ I hq) (fun fl s' hs => ?_) fun e s' hs => hs
  have fin : ∀ {σ' : St} {H' : Hp} {v : V} {u : Value}, Inv (cxOf CX P w K mg base N qual scope f cdv A outer s H E) [] σ' H' s' → RelV v u → Q v H' → CE outer P w H s Q u s' :=
    fun {σ' H' v u} J rv q => ⟨v, H', J.os, J.bare, J.base, J.hok, rv, q⟩
  cases fl with
  | ret u =>
    obtain ⟨v, σ', H', J, rv, q⟩ := hs
    exact fin J rv q
  | next =>
    obtain ⟨σ', H', J, q⟩ := hs
    exact fin (v := V.non) (u := Value.none) J rfl q
  | brk =>
    obtain ⟨_, _, _, q⟩ := hs
    exact False.elim q
  | cont =>
    obtain ⟨_, _, _, q⟩ := hs
    exact False.elim q
end L2

namespace L2
open PySem PySem.Spec PyProof.Rows
section
variable {X : Cx} {x : Str} {p pos : Pos} {e : Expr} {es : List Expr} {t : TA} {id T : String} {r : List V → Hp → VK → Prop}

noncomputable abbrev tCB (r : List V → Hp → VK → Prop) (t : TA) : TE := fun σ H Q => t σ H fun vs H1 => r vs H1 Q
/-- f(e, ..), f a built-in function -/
theorem pe_callB (hc : CallR X (.builtin id) r) (hg : Gl X x) (hm : X.mg x = none) (hv : bootBuiltins x = some (.builtin id)) (ha : PA X (e :: es) t) (hn : x ≠ "__name__" := by decide) (hdb : (x == ("__debug__" : Str)) = false := by decide)
    (he : starEach (e :: es) X.env = (false, eval e X.env) :: starEach es X.env := by rfl) (hpl : (backTo pos (starEach es X.env)).any (·.1) = false := by rfl) : PE X (.Call (.Name x p) (e :: es) [] pos) (tCB r t) := by
  intro pins s σ H Q I h
  refine wpAny_Call_Name_kw (ld_blt I hg hm hv ?_ hn hdb)
  exact PyProof.Rows.callWith_builtin1 (thn (ha pos pins s σ H _ I h) fun us s1 ⟨vs, H1, I1, r1, q1⟩ => hc pins s1 σ H1 vs us Q I1 r1 q1) he hpl
/-- T(e, ..), T a built-in type -/
theorem pe_callTy (hc : CallR X (.type T) r) (hg : Gl X x) (hm : X.mg x = none) (hv : bootBuiltins x = some (.type T)) (ha : PA X (e :: es) t) (hn : x ≠ "__name__" := by decide) (hdb : (x == ("__debug__" : Str)) = false := by decide)
    (he : starEach (e :: es) X.env = (false, eval e X.env) :: starEach es X.env := by rfl) (hpl : (backTo pos (starEach es X.env)).any (·.1) = false := by rfl) : PE X (.Call (.Name x p) (e :: es) [] pos) (tCB r t) := by
  intro pins s σ H Q I h
  refine wpAny_Call_Name_kw (ld_blt I hg hm hv ?_ hn hdb)
  exact PyProof.Rows.callWith_type1 (thn (ha pos pins s σ H _ I h) fun us s1 ⟨vs, H1, I1, r1, q1⟩ => hc pins s1 σ H1 vs us Q I1 r1 q1) he hpl
end
end L2

namespace HT
open PySem PyProof.Rows

section
open PySem.SeqAt
open PySem.AutoSeq1 (wpAny_loadPart')
open PySem.MeetsSeq PySem.MeetsSeq2 PySem.MeetsSeq3

end

section
variable {prog : Program} {w : World} {A : Around} {E : Value → Shared → Prop} {s : Shared}

/-- t + u, t not empty -/
theorem cat_tup {t b : Addr} {vs ws : List Value} {Q : Value → Shared → Prop} (ht : IsTup s.heap t vs.toArray) (hb : IsTup s.heap b ws.toArray) (hv : vs ≠ [])
    (h1 : ws = [] → Q (.ref t) s) (h2 : ws ≠ [] → Q (.ref s.heap.objs.size) { s with heap := s.heap.push { cls := .type "tuple", data := .seq (vs ++ ws).toArray } })
    (hsz : vs.length + ws.length ≤ sizeLine) : wpAny (model prog w) A (binaryOp .Add (.ref t) (.ref b)) Q E s := by
  obtain ⟨⟨cls, dd, data, sl⟩, ho, hc, n, hd⟩ := id ht
  obtain ⟨⟨cls2, dd2, data2, sl2⟩, ho2, hc2, n2, hd2⟩ := id hb
  simp only at hc hd hc2 hd2
  subst hc hd hc2 hd2
  have e : vs.toArray ++ ws.toArray = (vs ++ ws).toArray := by simp
  by_cases hw : ws = []
  · exact concat_meets ⟨_, ho, rfl⟩ ⟨_, ho2, rfl⟩ noFill_tuple_add seq_tuple_add PySem.F.slot_tuple_add PySem.F.entry_tuple_add (PySem.F.args_tuple_add_2 _ _)
      (tuple_addW1 t b vs.toArray ws.toArray n n2 dd dd2 sl sl2 (by simpa using hv) (by simp [hw])) ⟨ho, ho2, h1 hw⟩
  · refine concat_meets ⟨_, ho, rfl⟩ ⟨_, ho2, rfl⟩ noFill_tuple_add seq_tuple_add PySem.F.slot_tuple_add PySem.F.entry_tuple_add (PySem.F.args_tuple_add_2 _ _)
      (tuple_addW2 t b vs.toArray ws.toArray n n2 dd dd2 sl sl2 (by simpa using hv) (by simpa using hw) (by rw [List.size_toArray, List.size_toArray]; exact hsz)) ⟨ho, ho2, ?_⟩
    rw [e]
    exact h2 hw

/-! ### t[a:b], not the whole -/
/-- a slice's bound as a place among n (d where it is left out) -/
noncomputable def sIx (n d : Nat) : Option Int → Nat
  | none => d
  | some v => if v < 0 then (v + (n : Int)).toNat else min v.toNat n
end
end HT

namespace L2
open PySem PySem.Spec PyProof.Rows

/-! ### the parts of a slice -/
noncomputable abbrev TO := St → Hp → (Option Int → Hp → Prop) → Prop
/-- a slice's part (left out, or an int) -/
noncomputable def PO (X : Cx) (e : Option Expr) (t : TO) : Prop :=
  ∀ (pins : List (Addr × Obj)) (s : Shared) (σ : St) (H : Hp) (Q : Option Int → Hp → Prop), Inv X pins σ H s → t σ H Q →
    wpAny (model X.prog X.w) X.A (evalPart e X.env) (fun u s' => ∃ o H', Inv X pins σ H' s' ∧ IsPart u o ∧ Q o H') X.xe s
noncomputable abbrev tNoPart : TO := fun _ H Q => Q none H
noncomputable abbrev tPart (t : TE) : TO := fun σ H Q => t σ H fun x H1 => ∃ i, x = .int i ∧ Q (some i) H1

section
variable {X : Cx} {e : Expr} {te : TE} {lo hi : Option Expr} {tl th : TO} {pos p2 : Pos}

theorem po_none : PO X none tNoPart := by
  intro pins s σ H Q I h
  rw [evalPart_none]
  exact wpAny_pure ⟨none, H, I, .none, h⟩
theorem po_some (h : PE X e te) : PO X (some e) (tPart te) := by
  intro pins s σ H Q I hw
  rw [evalPart_some]
  refine thn (h pins s σ H _ I hw) fun u s1 ⟨x, H1, I1, r1, q1⟩ => ?_
  obtain ⟨i, rfl, q⟩ := q1
  obtain ⟨t, rfl⟩ := r1
  exact ⟨some i, H1, I1, .int i t, q⟩

/-- what a slice of a value is, by values: the slice object stands at sl -/
noncomputable def SlR (X : Cx) (r : V → Option Int → Option Int → Hp → VK → Prop) : Prop :=
  ∀ (pins : List (Addr × Obj)) (s : Shared) (σ : St) (H : Hp) (x : V) (v vl vu : Value) (lo hi : Option Int) (sl : Addr) (Q : VK), Inv X pins σ H s → RelV x v → s.heap.IsSliceOf sl vl vu .none → IsPart vl lo → IsPart vu hi → r x lo hi H Q →
    ∃ T id, typeLookup (.type T) "__getitem__" = pure (some (.builtin id)) ∧ s.TypeIs v T ∧ wpAny (model X.prog X.w) X.A (getItem v (.ref sl)) (EP X pins σ Q) X.xe s
noncomputable abbrev tSl (r : V → Option Int → Option Int → Hp → VK → Prop) (te : TE) (tl th : TO) : TE := fun σ H Q => te σ H fun x H1 => tl σ H1 fun l H2 => th σ H2 fun u H3 => r x l u H3 Q
/-- a[lo:hi], any a -/
theorem pe_slice {r : V → Option Int → Option Int → Hp → VK → Prop} (hr : SlR X r) (he : PE X e te) (hl : PO X lo tl) (hu : PO X hi th) : PE X (.Subscript e (.Slice lo hi none p2) pos) (tSl r te tl th) := by
  intro pins s σ H Q I h
  refine Subscript_ (thn (he pins s σ H _ I h) fun v s1 ⟨x, H1, I1, r1, q1⟩ => ?_)
  refine wpAny_Slice (thn (hl pins s1 σ H1 _ I1 q1) fun vl s2 ⟨l, H2, I2, pl, q2⟩ => thn (hu pins s2 σ H2 _ I2 q2) fun vu s3 ⟨u, H3, I3, pu, q3⟩ => ?_)
  rw [evalPart_none]
  refine wpAny_pure ?_
  have I4 : Inv X pins σ H3 { s3 with heap := s3.heap.push { cls := .type "slice", data := .fields #[vl, vu, .none] } } := I3.kept (t' := s3.toks) fun b ob q => Heap.get?_push_of_some _ q
  obtain ⟨T, id, hT, ht, hg⟩ := hr pins { s3 with heap := s3.heap.push { cls := .type "slice", data := .fields #[vl, vu, .none] } } σ H3 x v vl vu l u s3.heap.objs.size Q I4 r1 (Heap.IsSliceOf.new ..) pl pu q3
  show wpAny (model X.prog X.w) X.A (subscriptTail e (.Slice lo hi none p2) v (.ref s3.heap.objs.size)) (EP X pins σ Q) X.xe { s3 with heap := s3.heap.push { cls := .type "slice", data := .fields #[vl, vu, .none] } }
  exact tail_any (ops := [.ref s3.heap.objs.size, v]) ht hT hg (by with_unfolding_all rfl)

/-- the items of xs[lo:hi] -/
noncomputable def cutV (xs : List V) (lo hi : Option Int) : List V := (xs.drop (HT.sIx xs.length 0 lo)).take (HT.sIx xs.length xs.length hi - HT.sIx xs.length 0 lo)
theorem cutV_length (xs : List V) (lo hi : Option Int) : (cutV xs lo hi).length ≤ xs.length := by
  unfold cutV
  rw [List.length_take, List.length_drop]
  omega
/-- t + u, t not empty: u empty gives t itself -/
noncomputable def rCatT (K : PySem.W.Frag) : R2 := fun x y H Q => ∃ a b xs ys, x = .ref a ∧ y = .ref b ∧ SqT K H a xs ∧ SqT K H b ys ∧ xs ≠ [] ∧ xs.length + ys.length ≤ sizeLine ∧
  (ys = [] → Q (.ref a) H) ∧ (ys ≠ [] → ∀ p, H p = none → Q (.ref p) (upd H p (.tup (xs ++ ys))))
theorem Vals.nil_iff {xs : List V} {us : List Value} (r : Vals xs us) : us = [] ↔ xs = [] := by
  cases r with
  | nil => simp
  | cons _ _ => simp
theorem op_catT : OpR X (binaryOp .Add) (rCatT X.K) := by
  intro pins s σ H x y v u Q I rx ry h
  obtain ⟨a, b, xs, ys, rfl, rfl, ha, hb, hx, hz, q1, q2⟩ := h
  cases rx
  cases ry
  obtain ⟨its, r1, p1, _⟩ := I.tuple ha
  obtain ⟨its2, r2, p2, _⟩ := I.tuple hb
  refine HT.cat_tup p1 p2 (fun z => hx (r1.nil_iff.mp z)) (fun z => ⟨.ref a, H, I, rfl, q1 (r2.nil_iff.mp z)⟩) (fun z => ?_) (by rw [← r1.length, ← r2.length]; exact hz)
  refine ⟨.ref s.heap.objs.size, _, I.laid (t' := s.toks) (o := .tup (xs ++ ys)) (fun b ob q => Heap.get?_push_of_some _ q) (Nat.le_refl _) ?_, rfl, q2 (fun w => z (r2.nil_iff.mpr w)) _ (I.hok.fresh (Nat.le_refl _))⟩
  exact ⟨by rw [List.length_append]; exact hz, _, r1.append r2, IsTup.new _ _⟩
end
end L2

namespace L2
open PySem PySem.Spec PyProof.Rows

/-! ### places -/
/-- the place that an index of any sign means -/
noncomputable def ixN (n : Nat) (i : Int) : Option Nat := if 0 ≤ i then (if i < n then some i.toNat else none) else if -(n : Int) ≤ i then some (i + n).toNat else none
noncomputable def atI {α : Type} (xs : List α) (i : Int) : Option α := (ixN xs.length i).bind fun j => xs[j]?
theorem ixN_seq {n : Nat} {i : Int} {j : Nat} (h : ixN n i = some j) : seqIndex? i n = some j ∧ j < n ∧ -(n : Int) ≤ i ∧ i < n := by
  unfold ixN at h
  by_cases h0 : 0 ≤ i
  · rw [if_pos h0] at h
    by_cases h1 : i < n
    · rw [if_pos h1] at h
      have e : i.toNat = j := Option.some.inj h
      exact ⟨by rw [seqIndex_of h0 h1, e], by omega, by omega, h1⟩
    · rw [if_neg h1] at h; cases h
  · rw [if_neg h0] at h
    by_cases h1 : -(n : Int) ≤ i
    · rw [if_pos h1] at h
      have e : (i + n).toNat = j := Option.some.inj h
      exact ⟨by rw [seqIndex_neg (by omega) h1, e], by omega, h1, by omega⟩
    · rw [if_neg h1] at h; cases h
theorem atI_get {α : Type} {xs : List α} {i : Int} {v : α} (h : atI xs i = some v) : ∃ j, seqIndex? i xs.length = some j ∧ xs[j]? = some v ∧ j < xs.length ∧ -(xs.length : Int) ≤ i ∧ i < xs.length := by
  unfold atI at h
  cases e : ixN xs.length i with
  | none => rw [e] at h; cases h
  | some j =>
    rw [e] at h
    obtain ⟨h1, h2, h3, h4⟩ := ixN_seq e
    exact ⟨j, h1, h, h2, h3, h4⟩
theorem atI_nat {α : Type} {xs : List α} {j : Nat} {v : α} (h : xs[j]? = some v) : atI xs (j : Int) = some v := by
  have hj : j < xs.length := (List.getElem?_eq_some_iff.mp h).1
  have e : ixN xs.length (j : Int) = some j := by
    unfold ixN
    rw [if_pos (by omega), if_pos (by omega)]; simp
  unfold atI; rw [e]; exact h
/-! ### what may be subscripted -/
/-- what stands as an index of a plain subscript -/
noncomputable def PlainIx (b : Expr) : Prop := ∀ o i, subscripted b false o i = operate [o, i] (getItem o i)
/-- a subscript by values -/
noncomputable def IxR (X : Cx) (r : R2) : Prop :=
  ∀ (value slice : Expr) (pins : List (Addr × Obj)) (s : Shared) (σ : St) (H : Hp) (x y : V) (v u : Value) (Q : VK), Inv X pins σ H s → RelV x v → RelV y u → r x y H Q →
    subscripted slice false v u = operate [v, u] (getItem v u) → wpAny (model X.prog X.w) X.A (subscriptTail value slice v u) (EP X pins σ Q) X.xe s
/-- a call of a builtin's method by values: the receiver, the arguments -/
noncomputable def MtR (X : Cx) (id : String) (r : V → List V → Hp → VK → Prop) : Prop :=
  ∀ (pins : List (Addr × Obj)) (s : Shared) (σ : St) (H : Hp) (x : V) (xs : List V) (v : Value) (us : List Value) (Q : VK), Inv X pins σ H s → RelV x v → Vals xs us → r x xs H Q →
    wpAny (model X.prog X.w) X.A (call (.builtin id) (v :: us)) (EP X pins σ Q) X.xe s
section
variable {X : Cx} {a b : Expr} {ta tb : TE} {pos : Pos}
theorem IxR.or {r r' : R2} (h : IxR X r) (h' : IxR X r') : IxR X (fun x y H Q => r x y H Q ∨ r' x y H Q) := by
  intro value slice pins s σ H x y v u Q I rx ry q hs
  rcases q with q | q
  · exact h value slice pins s σ H x y v u Q I rx ry q hs
  · exact h' value slice pins s σ H x y v u Q I rx ry q hs
/-- a[b] -/
theorem pe_ix {r : R2} (hr : IxR X r) (ha : PE X a ta) (hb : PE X b tb) (hs : PlainIx b) : PE X (.Subscript a b pos) (tOp r ta tb) := by
  intro pins s σ H Q I h
  exact Subscript_ (binT ha hb I h fun v u s2 x y H2 I2 rx ry q => hr a b pins s2 σ H2 x y v u Q I2 rx ry q (hs _ _))

noncomputable def rIxL (K : PySem.W.Frag) : R2 := fun x y H Q => ∃ p xs i v, x = .ref p ∧ y = .int i ∧ SqL K H p xs ∧ atI xs i = some v ∧ Q v H
noncomputable def rIxT (K : PySem.W.Frag) : R2 := fun x y H Q => ∃ p xs i v, x = .ref p ∧ y = .int i ∧ SqT K H p xs ∧ atI xs i = some v ∧ Q v H
theorem ix_list : IxR X (rIxL X.K) := by
  intro value slice pins s σ H x y v u Q I rx ry h hs
  obtain ⟨p, xs, i, z, rfl, rfl, hq, he, q⟩ := h
  cases rx
  obtain ⟨t, rfl⟩ := ry
  obtain ⟨its, r, pl, hz⟩ := I.list hq
  obtain ⟨j, h1, h2, h3, h4, h5⟩ := atI_get he
  obtain ⟨w, ew, rw'⟩ := r.get h2
  have hl := r.length
  have hn := line63
  have fin : EP X pins σ Q w s := ⟨z, H, I, rw', q⟩
  by_cases h0 : 0 ≤ i
  · have hj : i.toNat = j := by
      rw [seqIndex_of h0 h5] at h1
      exact Option.some.inj h1
    exact item_listR pl.isList h0 (by omega) (by rw [hj]; simpa using ew) fin hs
  · have hj : (i + (its.toArray.size : Int)).toNat = j := by
      rw [seqIndex_neg (by omega) h4] at h1
      rw [List.size_toArray, ← hl]
      exact Option.some.inj h1
    exact subscriptTail_builtinR (x := w) pl.isList.typeIs slot_list_getitem.lookup
      (wpAny_getItem_list_neg (Q := fun r s' => r = w ∧ EP X pins σ Q r s') pl.isList (by omega) (by rw [List.size_toArray] <;> omega) (by omega) (by rw [hj]; simpa using ew) ⟨rfl, fin⟩) hs
theorem ix_tup : IxR X (rIxT X.K) := by
  intro value slice pins s σ H x y v u Q I rx ry h hs
  obtain ⟨p, xs, i, z, rfl, rfl, hq, he, q⟩ := h
  cases rx
  obtain ⟨t, rfl⟩ := ry
  obtain ⟨its, r, pl, hz⟩ := I.tuple hq
  obtain ⟨j, h1, h2, h3, h4, h5⟩ := atI_get he
  obtain ⟨w, ew, rw'⟩ := r.get h2
  have hl := r.length
  have hn := line63
  have fin : EP X pins σ Q w s := ⟨z, H, I, rw', q⟩
  exact subscriptTail_builtinR (x := w) pl.typeIs slot_tuple_getitem.lookup
    (getItem_tuple (j := j) (Q := fun r s' => r = w ∧ EP X pins σ Q r s') pl (by omega) (by omega) (by rw [List.size_toArray, ← hl]; exact h1) (by simpa using ew) ⟨rfl, fin⟩) hs
/-! ### slices -/
theorem slice_bounds (lo hi : Option Int) (n : Nat) : (sliceBounds lo hi none n).1 = ((HT.sIx n 0 lo : Nat) : Int) ∧ (sliceBounds lo hi none n).2.1 = ((HT.sIx n n hi : Nat) : Int) ∧ (sliceBounds lo hi none n).2.2 = 1 := by
  refine ⟨?_, ?_, rfl⟩
  · cases lo with
    | none => simp [sliceBounds, HT.sIx]
    | some i =>
      simp only [sliceBounds, HT.sIx, Option.getD_none, show (1 : Int) > 0 by decide, if_true]
      by_cases h : i < 0
      · simp only [h, if_true] <;> omega
      · simp only [h, if_false] <;> omega
  · cases hi with
    | none => simp [sliceBounds, HT.sIx]
    | some i =>
      simp only [sliceBounds, HT.sIx, Option.getD_none, show (1 : Int) > 0 by decide, if_true]
      by_cases h : i < 0
      · simp only [h, if_true] <;> omega
      · simp only [h, if_false] <;> omega
theorem slicePick_cut (its : List Value) (lo hi : Option Int) : slicePick its.toArray lo hi none = ((its.drop (HT.sIx its.length 0 lo)).take (HT.sIx its.length its.length hi - HT.sIx its.length 0 lo)).toArray := by
  obtain ⟨h1, h2, h3⟩ := slice_bounds lo hi its.toArray.size
  unfold slicePick
  rw [h1, h2, h3]
  simp only [sliceRange_one, pick_run, List.size_toArray] <;> rfl
/-- xs[lo:hi] of a list: a new list -/
noncomputable def rSlL (K : PySem.W.Frag) : V → Option Int → Option Int → Hp → VK → Prop := fun x lo hi H Q => ∃ a xs, x = .ref a ∧ SqL K H a xs ∧ ∀ p, H p = none → Q (.ref p) (upd H p (.lst (cutV xs lo hi)))
theorem sl_list : SlR X (rSlL X.K) := by
  intro pins s σ H x v vl vu lo hi sl Q I rx hs pl pu h
  obtain ⟨a, xs, rfl, hx, q⟩ := h
  cases rx
  obtain ⟨its, r, ht, hz⟩ := I.list hx
  have hlen := r.length
  refine ⟨"list", _, slot_list_getitem.lookup, ht.isList.typeIs, ?_⟩
  refine wpAny_getItem_list_slice ht.isList hs pl pu .none (by simp) ?_ (by rw [List.size_toArray] <;> omega)
  rw [slicePick_cut, ← hlen]
  refine ⟨.ref s.heap.objs.size, _, I.laid (t' := s.toks) (o := .lst (cutV xs lo hi)) (fun b ob q => Heap.get?_push_of_some _ q) (Nat.le_refl _) ?_, rfl, q _ (I.hok.fresh (Nat.le_refl _))⟩
  exact ⟨Nat.le_trans (cutV_length xs lo hi) hz, _, 0, (r.drop (HT.sIx xs.length 0 lo)).take (HT.sIx xs.length xs.length hi - HT.sIx xs.length 0 lo), Heap.get?_push_size _ rfl⟩

/-! ### len, list(x), tuple(x) of any list or tuple that is read -/
theorem call_len_seq : CallR X (.builtin "len") (fun xs H Q => ∃ p ys, xs = [.ref p] ∧ (SqL X.K H p ys ∨ SqT X.K H p ys) ∧ Q (.int ys.length) H) := by
  intro pins s σ H xs us Q I r h
  obtain ⟨p, ys, rfl, hq, q⟩ := h
  obtain ⟨u, rfl, rx⟩ := vals1 r
  cases rx
  have hn := line63
  rcases hq with hq | hq
  · obtain ⟨its, r', pl, hz⟩ := I.list hq
    have hlen := r'.length
    exact Calls.call_len_list pl.isList (by simp only [List.size_toArray] <;> omega) ⟨.int ys.length, H, I.tok _, ⟨s.toks + 1, by rw [List.size_toArray, hlen]⟩, q⟩
  · obtain ⟨its, r', pl, hz⟩ := I.tuple hq
    have hlen := r'.length
    exact len_tuple pl (by simp only [List.size_toArray] <;> omega) ⟨.int ys.length, H, I.tok _, ⟨s.toks + 1, by rw [List.size_toArray, hlen]⟩, q⟩
theorem call_list_of : CallR X (.type "list") (fun xs H Q => ∃ p ys, xs = [.ref p] ∧ (SqL X.K H p ys ∨ SqT X.K H p ys) ∧ ∀ l, H l = none → Q (.ref l) (upd H l (.lst ys))) := by
  intro pins s σ H xs us Q I r h
  obtain ⟨p, ys, rfl, hq, q⟩ := h
  obtain ⟨u, rfl, rx⟩ := vals1 r
  cases rx
  have fin : ∀ (its : List Value), Vals ys its → ys.length ≤ sizeLine → ∀ (h' : Heap) (c' : Nat), (∀ b o', s.heap.get? b = some o' → h'.get? b = some o') →
      h'.get? s.heap.objs.size = some { cls := .type "list", dict := none, data := .seq its.toArray c', slots := #[] } → EP X pins σ Q (.ref s.heap.objs.size) { s with heap := h' } := fun its r' hz h' c' kp e =>
    ⟨.ref s.heap.objs.size, _, I.laid (t' := s.toks) kp (Nat.le_refl _) (show ObjOk X.prog X.w _ h' _ (.lst ys) from ⟨hz, its, c', r', e⟩), rfl, q _ (I.hok.fresh (Nat.le_refl _))⟩
  rcases hq with hq | hq
  · obtain ⟨its, r', pl, hz⟩ := I.list hq
    have hlen := r'.length
    obtain ⟨o, ho, hc, n, hd⟩ := pl.isList
    exact call_list_seq p (.inl rfl) ho hc hd (fun h' c' kp e => fin its r' hz h' c' kp e) (by simp only [List.size_toArray] <;> omega)
  · obtain ⟨its, r', pl, hz⟩ := I.tuple hq
    have hlen := r'.length
    obtain ⟨o, ho, hc, n, hd⟩ := pl
    exact call_list_seq p (.inr rfl) ho hc hd (fun h' c' kp e => fin its r' hz h' c' kp e) (by simp only [List.size_toArray] <;> omega)
theorem call_tuple_of : CallR X (.type "tuple") (fun xs H Q => ∃ p ys, xs = [.ref p] ∧ ((SqL X.K H p ys ∧ ∀ l, H l = none → Q (.ref l) (upd H l (.tup ys))) ∨ (SqT X.K H p ys ∧ Q (.ref p) H))) := by
  intro pins s σ H xs us Q I r h
  obtain ⟨p, ys, rfl, h⟩ := h
  obtain ⟨u, rfl, rx⟩ := vals1 r
  cases rx
  rcases h with ⟨hq, q⟩ | ⟨hq, q⟩
  · obtain ⟨its, r', pl, hz⟩ := I.list hq
    have hlen := r'.length
    refine call_tuple_list pl.isList (fun h' kp => ?_) (by simp only [List.size_toArray] <;> omega)
    have I1 : Inv X pins σ H { s with heap := h' } := I.kept (t' := s.toks) kp
    have I2 : Inv X pins σ (upd H h'.objs.size (.tup ys)) { s with heap := h'.push { cls := .type "tuple", data := .seq its.toArray } } :=
      I1.laid (t' := s.toks) (fun b o e => Heap.get?_push_of_some _ e) (Nat.le_refl _) (show ObjOk X.prog X.w _ _ _ (.tup ys) from ⟨hz, its, r', IsTup.new _ _⟩)
    exact ⟨.ref h'.objs.size, _, I2, rfl, q _ (I1.hok.fresh (Nat.le_refl _))⟩
  · obtain ⟨its, r', pl, hz⟩ := I.tuple hq
    exact call_tuple_same pl ⟨.ref p, H, I, rfl, q⟩

/-! ### the call of a builtin's method: o.m(..) -/
/-- the value is of that builtin type -/
noncomputable def tyV (K : PySem.W.Frag) (T : String) (x : V) (H : Hp) : Prop := match x with
  | .str _ => T = "str"
  | .int _ => T = "int"
  | .ref p => (T = "list" ∧ ∃ xs, SqL K H p xs) ∨ (T = "tuple" ∧ ∃ o, K.lookup p = some o ∧ o.cls = .type "tuple" ∧ o.dict = none) ∨
      (T = "dict" ∧ ((∃ kvs, H p = some (.dK kvs)) ∨ ∃ kvs, H p = some (.dT kvs))) ∨ (T = "set" ∧ ∃ S n, H p = some (.set S n))
  | _ => False
theorem tyV_is {pins : List (Addr × Obj)} {σ : St} {H : Hp} {s : Shared} {T : String} {x : V} {v : Value} (I : Inv X pins σ H s) (r : RelV x v) (ty : tyV X.K T x H) :
    s.TypeIs v T ∧ ∀ a, v = .ref a → ∃ ob, s.heap.get? a = some ob ∧ ob.dict = none := by
  cases x with
  | str z =>
    obtain ⟨t, rfl⟩ := r
    cases (show T = "str" from ty)
    exact ⟨typeIs_str s z t, fun _ e => nomatch e⟩
  | int i =>
    obtain ⟨t, rfl⟩ := r
    cases (show T = "int" from ty)
    exact ⟨typeIs_int s i t, fun _ e => nomatch e⟩
  | ref p =>
    cases r
    rcases ty with ⟨rfl, xs, hq⟩ | ⟨rfl, o, hk, hc, hd⟩ | ⟨rfl, hk⟩ | ⟨rfl, S, n, hk⟩
    · obtain ⟨its, _, pl, _⟩ := I.list hq
      refine ⟨pl.isList.typeIs, fun a e => ?_⟩
      cases e
      obtain ⟨o, n, e, c, hd, _⟩ := pl
      exact ⟨o, e, hd⟩
    · refine ⟨⟨o, I.kIn p o hk, hc⟩, fun a e => ?_⟩
      cases e
      exact ⟨o, I.kIn _ o hk, hd⟩
    · have z : ∃ o, s.heap.get? p = some o ∧ o.ExactDict := by
        rcases hk with ⟨kvs, hk⟩ | ⟨kvs, hk⟩
        · obtain ⟨_, _, _, _, o, _, _, e, ex, _⟩ := I.hok p _ hk
          exact ⟨o, e, ex⟩
        · obtain ⟨_, _, _, _, o, _, _, e, ex, _⟩ := I.hok p _ hk
          exact ⟨o, e, ex⟩
      obtain ⟨o, e, ex⟩ := z
      refine ⟨⟨o, e, ex.1⟩, fun a e2 => ?_⟩
      cases e2
      exact ⟨o, e, ex.2.1⟩
    · obtain ⟨o, _, _, _, e, ex, _⟩ := I.hok p _ hk
      refine ⟨⟨o, e, ex.1⟩, fun a e2 => ?_⟩
      cases e2
      exact ⟨o, e, ex.2.1⟩
  | _ => exact False.elim ty
noncomputable abbrev tBM0 (K : PySem.W.Frag) (T : String) (r : V → List V → Hp → VK → Prop) (to : TE) : TE := fun σ H Q => to σ H fun x H1 => tyV K T x H1 ∧ r x [] H1 Q
noncomputable abbrev tBM (K : PySem.W.Frag) (T : String) (r : V → List V → Hp → VK → Prop) (to : TE) (t : TA) : TE := fun σ H Q => to σ H fun x H1 => tyV K T x H1 ∧ t σ H1 fun xs H2 => r x xs H2 Q
variable {o e : Expr} {es : List Expr} {to : TE} {t : TA} {name : Str} {apos cpos : Pos} {T id : String} {r : V → List V → Hp → VK → Prop}
theorem pe_bm0 (pa : PlainAttrs T) (slot : Slot T name id) (hty : typeOf (.builtin id) = pure (.type "method_descriptor")) (hm : MtR X id r) (ho : PE X o to)
    (hbase : attributeBase o name X.env (eval o X.env) = eval o X.env := by rfl) (hline : (apos.endLine == cpos.line) = true := by rfl) : PE X (.Call (.Attribute o name apos) [] [] cpos) (tBM0 X.K T r to) := by
  intro pins s σ H Q I h
  refine wpAny_Call_method0_late hbase hline (thn (ho pins s σ H _ I h) fun v s1 ⟨x, H1, I1, r1, ty, q1⟩ => ?_)
  obtain ⟨h1, h2⟩ := tyV_is I1 r1 ty
  exact ⟨T, id, pa, slot, hty, h1, h2, Calls.callWith_builtin rfl (PySem.evalArgs_none (hm pins s1 σ H1 x [] v [] Q I1 r1 .nil q1))⟩
theorem pe_bm (pa : PlainAttrs T) (slot : Slot T name id) (hty : typeOf (.builtin id) = pure (.type "method_descriptor")) (hm : MtR X id r) (ho : PE X o to) (ha : PA X (e :: es) t)
    (hbase : attributeBase o name X.env (eval o X.env) = eval o X.env := by rfl)
    (hfew : ((backTo cpos (starEach (e :: es) X.env)).all (fun x => !x.1) && (backToKw cpos (keywordEach [] X.env)).all (fun x => x.1.isSome)
      && decide ((e :: es).length + ([] : List Keyword).length + (if ([] : List Keyword).isEmpty then 0 else 1) < 30)) = true := by rfl)
    (hline : (apos.endLine == cpos.line) = true := by rfl) (hs : starEach (e :: es) X.env = (false, eval e X.env) :: starEach es X.env := by rfl) (hplain : (backTo cpos (starEach es X.env)).any (·.1) = false := by rfl) :
    PE X (.Call (.Attribute o name apos) (e :: es) [] cpos) (tBM X.K T r to t) := by
  intro pins s σ H Q I h
  refine wpAny_Call_method_late hbase hfew hline rfl (thn (ho pins s σ H _ I h) fun v s1 ⟨x, H1, I1, r1, ty, q1⟩ => ?_)
  obtain ⟨h1, h2⟩ := tyV_is I1 r1 ty
  refine ⟨T, id, pa, slot, hty, h1, h2, ?_⟩
  have hA := ha cpos pins s1 σ H1 _ I1 q1
  rw [hs] at hA ⊢
  refine Calls.callWith_builtin (by show (false || (backTo cpos (starEach es X.env)).any (·.1)) = false; rw [hplain] <;> rfl) (Calls.evalArgs_plain ?_)
  exact thn hA fun us s2 ⟨vs, H2, I2, r2, q2⟩ => hm pins s2 σ H2 x vs v us Q I2 r1 r2 q2
/- xs.append(e), list.index on a module's tuple .. are MtR facts of 06m -/
end
end L2

namespace L2
open PySem PySem.Spec PyProof.Rows

noncomputable def MtM (X : Cx) (id : String) (r : V → List V → Hp → VK → Prop) : Prop :=
  ∀ (pins : List (Addr × Obj)) (s : Shared) (σ : St) (H : Hp) (x : V) (xs : List V) (v : Value) (us : List Value) (Q : VK), Inv X pins σ H s → RelV x v → Vals xs us → r x xs H Q →
    wpAny (model X.prog X.w) X.A (call (.builtin id) (v :: us)) (EP X pins σ Q) X.xe s

/-! ### lists of values -/
theorem Vals.one : ∀ {x : V} {us : List Value}, Vals [x] us → ∃ u, us = [u] ∧ RelV x u
  | _, _, .cons r .nil => ⟨_, rfl, r⟩
theorem Vals.zero : ∀ {us : List Value}, Vals [] us → us = []
  | _, .nil => rfl
theorem Vals.dropLast {xs : List V} {us : List Value} (h : Vals xs us) : Vals xs.dropLast us.dropLast := by
  induction h with
  | nil => exact .nil
  | cons r t ih =>
    cases t with
    | nil => exact .nil
    | cons q t' => exact .cons r ih
theorem Vals.reverse {xs : List V} {us : List Value} (h : Vals xs us) : Vals xs.reverse us.reverse := by
  induction h with
  | nil => exact .nil
  | cons r t ih => rw [List.reverse_cons, List.reverse_cons]; exact Vals.append ih (.cons r .nil)
theorem erase_last {α : Type} (l : List α) : l.eraseIdx (l.length - 1) = l.dropLast := by
  induction l with
  | nil => rfl
  | cons a r ih =>
    cases r with
    | nil => rfl
    | cons b r =>
      have e : (a :: b :: r).length - 1 = ((b :: r).length - 1) + 1 := by
        have h1 : (a :: b :: r).length = r.length + 2 := rfl
        have h2 : (b :: r).length = r.length + 1 := rfl
        omega
      rw [e, List.eraseIdx_cons_succ, ih]
      all_goals rfl
section
variable {X : Cx} {pins : List (Addr × Obj)} {σ : St} {H : Hp} {s : Shared} {l b : Addr} {xs ys zs : List V}

/-! ### the two steps: a tracked list is rewritten, a new list is laid -/
theorem Inv.lset {its its' : List Value} {n : Nat} {f : Array Value → Array Value} {t' : Nat} (I : Inv X pins σ H s) (hH : H l = some (.lst xs))
    (e : s.heap.get? l = some { cls := .type "list", data := .seq its.toArray n }) (hf : f its.toArray = its'.toArray) (hv : Vals ys its') (hz : ys.length ≤ sizeLine) :
    Inv X pins σ (upd H l (.lst ys)) { s with heap := s.heap.update l (Obj.mapSeq f), toks := t' } := by
  have q := PySem.IsL.update e f
  rw [hf] at q
  refine I.write (x := l) (e := l) (by rw [hH]; exact trivial) (.inl rfl) (fun b' u hb hu => (Heap.get?_update_other s.heap (Obj.mapSeq f) (Ne.symm hb)).trans hu) ⟨_, q⟩ ?_
  exact ⟨hz, its', _, hv, q⟩
theorem Inv.lnew {its : List Value} {t' : Nat} (I : Inv X pins σ H s) (hv : Vals ys its) (hz : ys.length ≤ sizeLine) :
    Inv X pins σ (upd H s.heap.objs.size (.lst ys)) { s with heap := s.heap.push { cls := .type "list", data := .seq its.toArray }, toks := t' } :=
  I.laid (fun _ _ q => Heap.get?_push_of_some _ q) (Nat.le_refl _) ⟨hz, its, 0, hv, Heap.get?_push_size _ rfl⟩
theorem Inv.fresh (I : Inv X pins σ H s) : H s.heap.objs.size = none := I.hok.fresh (Nat.le_refl _)
theorem Inv.lstM (I : Inv X pins σ H s) (hH : H l = some (.lst xs)) : xs.length ≤ sizeLine ∧ ∃ (its : List Value) (n : Nat), Vals xs its ∧ xs.length = its.length ∧ s.heap.get? l = some { cls := .type "list", data := .seq its.toArray n } := by
  obtain ⟨z, its, n, r, e⟩ := I.hok l _ hH
  exact ⟨z, its, n, r, r.length, e⟩

theorem notLongL {n : Nat} (h : n ≤ sizeLine) : Builtin.List.listTooLong n = false := by
  unfold Builtin.List.listTooLong
  exact decide_eq_false (by omega)
end

section
variable {X : Cx}

/-! ### methods -/
noncomputable def rAppend : V → List V → Hp → VK → Prop := fun x vs H Q => ∃ l xs y, x = .ref l ∧ vs = [y] ∧ H l = some (.lst xs) ∧ xs.length < sizeLine ∧ Q .non (upd H l (.lst (xs ++ [y])))
theorem mt_append : MtM X "list.append" rAppend := by
  intro pins s σ H x vs v us Q I rx rv h
  obtain ⟨l, xs, y, rfl, rfl, hH, hz, q⟩ := h
  cases rx
  obtain ⟨u, rfl, ru⟩ := rv.one
  obtain ⟨z, its, n, r, hl, e⟩ := I.lstM hH
  refine call_meets F.slot_list_append ⟨_, e, rfl⟩ F.entry_list_append (F.args_list_append_2 _ _) (PySem.list_append l its.toArray n u (by rw [List.size_toArray]; omega)) ⟨e, ?_⟩
  refine ⟨.non, _, I.lset (its' := its ++ [u]) hH e (by simp) (r.append (.cons ru .nil)) ?_, rfl, q⟩
  rw [List.length_append, List.length_singleton]
  omega

noncomputable def rExtend : V → List V → Hp → VK → Prop := fun x vs H Q => ∃ l b xs zs, x = .ref l ∧ vs = [.ref b] ∧ H l = some (.lst xs) ∧ H b = some (.lst zs) ∧ xs.length + zs.length ≤ sizeLine ∧ Q .non (upd H l (.lst (xs ++ zs)))
theorem mt_extend : MtM X "list.extend" rExtend := by
  intro pins s σ H x vs v us Q I rx rv h
  obtain ⟨l, b, xs, zs, rfl, rfl, hH, hB, hz, q⟩ := h
  cases rx
  obtain ⟨u, rfl, ru⟩ := rv.one
  cases ru
  obtain ⟨z, its, n, r, hl, e⟩ := I.lstM hH
  obtain ⟨z2, its2, n2, r2, hl2, e2⟩ := I.lstM hB
  have hsz : its.toArray.size + its2.toArray.size ≤ sizeLine := by rw [List.size_toArray, List.size_toArray]; omega
  have hlong : ¬ (!its.toArray.isEmpty && Builtin.List.listTooLong (its.toArray.size + its2.toArray.size)) = true := by
    rw [notLongL hsz, Bool.and_false]
    exact Bool.false_ne_true
  refine call_meets F.slot_list_extend ⟨_, e, rfl⟩ F.entry_list_extend (F.args_list_extend_2 _ _)
    (AutoSeq1.list_extend_list_list_0 l its.toArray n b its2.toArray n2 hlong (by rw [List.size_toArray]; omega) (by omega)) ⟨e, e2, ?_⟩
  refine ⟨.non, _, I.lset (its' := its ++ its2) hH e (by simp) (r.append r2) ?_, rfl, q⟩
  rw [List.length_append]
  omega

noncomputable def rPop : V → List V → Hp → VK → Prop := fun x vs H Q => ∃ l xs y, x = .ref l ∧ vs = [] ∧ H l = some (.lst xs) ∧ xs[xs.length - 1]? = some y ∧ Q y (upd H l (.lst xs.dropLast))
theorem mt_pop : MtM X "list.pop" rPop := by
  intro pins s σ H x vs v us Q I rx rv h
  obtain ⟨l, xs, y, rfl, rfl, hH, hy, q⟩ := h
  cases rx
  have hus := rv.zero
  subst hus
  obtain ⟨z, its, n, r, hl, e⟩ := I.lstM hH
  obtain ⟨u, hu, ru⟩ := r.get hy
  have hy' : its.toArray[its.toArray.size - 1]? = some u := by
    show its.toArray[its.length - 1]? = some u
    rw [← Array.getElem?_toList, ← hl]
    exact hu
  refine call_meets F.slot_list_pop ⟨_, e, rfl⟩ F.entry_list_pop (F.args_list_pop_1 _) (MeetsSeq.list_pop_last l its.toArray n u hy' (by rw [List.size_toArray]; omega)) ⟨e, ?_⟩
  refine ⟨y, _, I.lset (its' := its.dropLast) hH e ?_ r.dropLast ?_, ru, q⟩
  · show its.toArray.eraseIdxIfInBounds (its.toArray.size - 1) = its.dropLast.toArray
    rw [List.size_toArray, List.eraseIdxIfInBounds_toArray, erase_last]
  · rw [List.length_dropLast]
    omega

noncomputable def rReverse : V → List V → Hp → VK → Prop := fun x vs H Q => ∃ l xs, x = .ref l ∧ vs = [] ∧ H l = some (.lst xs) ∧ Q .non (upd H l (.lst xs.reverse))
theorem mt_reverse : MtM X "list.reverse" rReverse := by
  intro pins s σ H x vs v us Q I rx rv h
  obtain ⟨l, xs, rfl, rfl, hH, q⟩ := h
  cases rx
  have hus := rv.zero
  subst hus
  obtain ⟨z, its, n, r, hl, e⟩ := I.lstM hH
  refine call_meets F.slot_list_reverse ⟨_, e, rfl⟩ F.entry_list_reverse (F.args_list_reverse_1 _) (AutoSeq1.list_reverse_list_0 l its.toArray n (by rw [List.size_toArray]; omega)) ⟨e, ?_⟩
  refine ⟨.non, _, I.lset (its' := its.reverse) hH e (by simp) r.reverse ?_, rfl, q⟩
  rw [List.length_reverse]
  omega

end

/-! ### xs[a:b] = ys -/
section
variable {prog : Program} {w : World} {A : Around} {E : Value → Shared → Prop} {s : Shared}
set_option maxRecDepth 100000 in
end

section
variable {X : Cx}
end
end L2

namespace Att
open PySem PySem.W PySem.Calls PyProof.Rows

/-! ### the script -/
theorem ints_of_wellAll {P : Params} {h : Heap} : ∀ (ns : List Int) (vs : List Value), WellAll P h vs (ns.map WData.int) → IntsAre vs ns := by
  intro ns
  induction ns with
  | nil =>
    intro vs w
    rw [List.map_nil] at w
    cases w
    exact .nil
  | cons n ns ih =>
    intro vs w
    rw [List.map_cons] at w
    cases w with
    | cons a b =>
      cases a
      exact .cons _ _ (ih _ b)

theorem script_of {l : OpenLaw} {n : Nat} (hn : l.most = some n) {P : Params} {h : Heap} {args : List WData} {vals : List Value}
    (hpre : l.row.toRowW.claim.pre args = true) (hwl : WellAll P h vals args) :
    ∃ a vs ns, vals = [Value.ref a] ∧ args = [WData.list (ns.map WData.int)] ∧ h.get? a = some { cls := .type "list", data := .seq vs.toArray } ∧ IntsAre vs ns ∧ ns.length ≤ n := by
  have hsh : WShape.hasAll [] args [.list .int] = true := (pre_splitW hpre).1
  have hc : l.pre.holds [] { args := args } = true := (pre_splitW hpre).2
  obtain ⟨d, r, rfl, h1, h2⟩ := hasAllW_cons hsh
  obtain rfl := hasAllW_nil h2
  obtain ⟨xs, rfl, h3⟩ := hasW_list h1
  obtain ⟨ns, rfl⟩ := items_int h3
  have hlen : ns.length ≤ n := by
    unfold OpenLaw.pre at hc
    have h4 : (WTm.not (.lt (.lit (.int (n : Int))) (.len (.arg 0)))).holds [] { args := [.list (ns.map .int)] } = true := by
      have h4 := (holds_andW hc).1
      rw [hn] at h4
      exact h4
    have h5 := condW_of h4 (w_not (w_lt w_lit (w_len_list (w_arg rfl))))
    rw [List.length_map] at h5
    refine Nat.le_of_not_lt fun q => ?_
    have q' : (n : Int) < ((ns.length : Nat) : Int) := by omega
    first
      | (rw [decide_eq_true q'] at h5; exact absurd h5 (by decide))
      | (simp at h5; omega)
  cases hwl with
  | cons w1 w2 =>
    cases w2
    cases w1 with
    | list ho hall => exact ⟨_, _, ns, rfl, rfl, ho, ints_of_wellAll ns _ hall, hlen⟩

theorem post_true (l : OpenLaw) (args : List WData) : l.row.toRowW.claim.post args (.bool true) args = true :=
  postW_of (r := l.row.toRowW) (X := (true == true))
    (show WShape.has [] (.bool true) .bool = true by first | rfl | decide | simp [WShape.has, WShape.arms, WShape.armsAll])
    (show (WTm.eq .res (.lit (.bool true))).value [] { args := args, res := some (.bool true), after := args } = some (.bool (true == true)) from w_eq_bool (w_res rfl) w_lit) rfl

/-- the same from a codeAny of the CALL (for a layer whose function contracts speak of calls) -/
theorem attach_call {l : OpenLaw} {n : Nat} {q : Program} {loose : List Str} {XP : (Str → Option Value) → Heap → Prop} {YP : World → Heap → Prop} {d : DefRec}
    (hn : l.most = some n) (hdf : d.params.defaults = [])
    (call : ∀ (w : World) (s₀ s₁ : Shared) (mg mb : Str → Option Value) (fa : Addr) (o : Obj) (pm cd doc : Value) (a : Addr) (vs : List Value) (ns : List Int),
      Ground q loose [] XP w s₀ mg mb s₁.heap → YP w s₁.heap →
      s₁.heap.get? fa = some o → o.data = .func (docDef d.name d.params d.body d.scope pm cd doc) → s₁.heap.CodeRec cd d.name → mg d.name = some (.ref fa) →
      s₁.heap.get? a = some { cls := .type "list", data := .seq vs.toArray } → IntsAre vs ns → ns.length ≤ n → s₁.gens = #[] →
      codeAny (model l.prog w) callerA (.call (.ref fa) ⟨[.ref a], []⟩) (fun r s' => r = .ok (.ret (.bool true)) ∧ OldK s₁.heap s'.heap ∧ s'.os = s₁.os ∧ AllBare s'.gens) s₁) :
    WalkO q loose XP YP l.row.toRowW d [] (fun f vs => PySem.call f vs) := by
  intro w s₀ s₁ mg mb G Y fa o pm cd doc dV kV ho hd hcd hD hmg hg args vals as hpre hlay hrd hwl hlo
  obtain rfl : dV = .none := Dflts.none hD hdf
  obtain rfl : kV = .none := Dflts.noKw hD
  obtain ⟨a, vs, ns, rfl, rfl, hobj, hints, hlen⟩ := script_of hn hpre hwl
  refine enter_call (codeAny_mono (call w s₀ s₁ mg mb fa o pm cd doc a vs ns G Y ho (fd_plain hd) hcd hmg hobj hints hlen hg) fun r s' hq => ?_)
  obtain ⟨rfl, h2, h3, h4⟩ := hq
  exact ⟨.inl ⟨.bool true, .bool true, [], rfl, fun _ => rfl, .bool true, post_true l _, fun _ => ⟨List.Pairwise.nil, fun _ hm => (nomatch hm)⟩⟩, h2, h3, h4⟩

/-! ### rules over ANY heap (no ledger) from facts about the written part K: the library's own take a ledger (News) for what they write -/
section
variable {prog : Program} {w : World} {A : Around} {E : Value → Shared → Prop} {s : Shared} {K : Frag}

end
end Att

namespace L2
open PySem PySem.Spec PyProof.Rows

theorem vals_ints : ∀ {vs : List Value} {ns : List Int}, IntsAre vs ns → Vals (ns.map V.int) vs
  | _, _, .nil => .nil
  | _, _, .cons n t h => .cons ⟨t, rfl⟩ (vals_ints h)

/-- nothing is tracked but the script, known to the object (or it is an object of the module) -/
noncomputable def Only (H : Hp) : Prop := ∀ b, H b = none ∨ ∃ o xs, H b = some (.frz o (.lst xs))

/-- THE HEAD: the law's promise, at the heap behind the top. F, the promise of the law's def, may use that base is part of the heap (so K.In base, base.Ns mainGlobals mg stand in Mod) -/
theorem law_call {P : Program} {w : World} {K : PySem.W.Frag} {mg mb : Str → Option Value} {CX : CXT} {k : Nat} {fa a : Addr} {fd : FuncData} {x : Str} {sp : Sp} {s₁ : Shared} {vs : List Value} {ns : List Int}
    (KX : K.In s₁.heap) (hns : s₁.heap.Ns mainGlobals mg) (hb : s₁.heap.Ns builtinsNs mb) (hbb : ∀ x : Str, x ≠ "__name__" → mb x = bootBuiltins x) (hlim : s₁.heap.NoLimit) (hg : s₁.gens = #[])
    (ha : s₁.heap.get? a = some { cls := .type "list", data := .seq vs.toArray }) (hi : IntsAre vs ns) (hl : ns.length ≤ sizeLine) (hr : Room k callerA)
    (F : ∀ base : Heap, K.In base → base.Ns mainGlobals mg → FnOk P w K mg base CX k fa fd [x] sp) (hbind : ∀ (s : Shared) (u : Value), BindsTo s fd ⟨[u], []⟩ [(x, u)])
    (hsp : ∀ H : Hp, Only H → SqL K H a (ns.map V.int) → sp [.ref a] H (fun v _ => v = .bl true) fun _ _ _ => False)
    (hCX : ∀ H e s', CX [] H s₁ (fun _ _ _ => False) e s' → False) :
    codeAny (model P w) callerA (.call (.ref fa) ⟨[.ref a], []⟩) (fun r s' => r = .ok (.ret (.bool true)) ∧ OldK s₁.heap s'.heap ∧ s'.os = s₁.os ∧ AllBare s'.gens) s₁ := by
  have rv := vals_ints hi
  have lenV := hi.length
  -- from an abstract heap in which nothing but the script may be tracked
  have core : ∀ H : Hp, Only H → SqL K H a (ns.map V.int) → HOk P w H s₁.heap → (∀ b, H b ≠ none → b = a) → (H a ≠ none → K.lookup a = none) →
      codeAny (model P w) callerA (.call (.ref fa) ⟨[.ref a], []⟩) (fun r s' => r = .ok (.ret (.bool true)) ∧ OldK s₁.heap s'.heap ∧ s'.os = s₁.os ∧ AllBare s'.gens) s₁ := by
    intro H hO hS hok hA hK
    have base_of : ∀ {b : Addr} {o : Obj}, s₁.heap.get? b = some o → H b = none → (hidT s₁.heap H).get? b = some o := fun e n => hidT_get e n
    have noA : ∀ {b : Addr} {o : Obj} {es : Array DictEntry} {ep : Nat}, s₁.heap.get? b = some o → o.data = .dict es ep → H b = none := fun {b o es ep} e d => by
      cases q : H b with
      | none => rfl
      | some u =>
        have e' : b = a := hA b (by rw [q]; simp)
        subst e'
        rw [ha] at e; cases e
        have d' : Data.seq vs.toArray _ = Data.dict es ep := d
        cases d'
    have nsK : ∀ {b : Addr} {m : Str → Option Value}, s₁.heap.Ns b m → (hidT s₁.heap H).Ns b m := fun {b m} ⟨o, es, ep, e, d, r⟩ => ⟨o, es, ep, base_of e (noA e d), d, r⟩
    have hKb : K.In (hidT s₁.heap H) := fun b o e => base_of (KX b o e) (by
      cases q : H b with
      | none => rfl
      | some u =>
        have e' : b = a := hA b (by rw [q]; simp)
        subst e'
        rw [hK (by rw [q]; simp)] at e; cases e)
    have hM : Mod K mg (hidT s₁.heap H) := ⟨hKb, nsK hns, ⟨mb, nsK hb, hbb⟩, let ⟨mc, h1, h2⟩ := hlim; ⟨mc, nsK h1, h2⟩⟩
    have e0 : Env0 P w K mg (hidT s₁.heap H) callerA [] s₁ H := ⟨rfl, hM, fun b o e => of_hidT e, Nat.le_of_eq (hidT_size _ _), trivial, fun b hb => absurd (show b ∈ ([] : List Addr) from hb) (by simp), hok, .of_eq hg⟩
    refine codeAny_mono ((F _ hKb (nsK hns)).run callerA [] s₁ H ⟨[.ref a], []⟩ [.ref a] [.ref a] _ _ hr e0 (hbind s₁ (.ref a)) (.cons rfl .nil) (hsp H hO hS)) fun r s' h => ?_
    cases r with
    | error e => exact (hCX H e s' h).elim
    | ok fl =>
      cases fl with
      | next => exact False.elim h
      | brk => exact False.elim h
      | cont => exact False.elim h
      | ret u =>
        obtain ⟨v, H', os, bare, un, hok', r', q⟩ := h
        have q' : v = .bl true := q
        subst q'
        obtain rfl : u = Value.bool true := r'
        refine ⟨rfl, OldK.of_keep fun b o e => ?_, os, bare⟩
        cases q : H b with
        | none => exact un.keep b o e q (by intro z; exact absurd (show b ∈ ([] : List Addr) from z) (by simp)) (by simp)
        | some u =>
          rcases hO b with z | ⟨ob, xs, z⟩
          · rw [q] at z; cases z
          · have z2 := un.frzs b ob _ z
            obtain ⟨e1, _⟩ := hok b _ z
            obtain ⟨e2, _⟩ := hok' b _ z2
            rw [e] at e1; cases e1
            exact e2
  cases hk : K.lookup a with
  | some o =>
    -- the script is one of the module's own objects
    have e := KX a o hk
    rw [ha] at e
    cases e
    refine core (fun _ => none) (fun _ => .inl rfl) (.inr ⟨_, vs.toArray, _, hk, rfl, rfl, rfl, by rw [List.size_toArray, lenV]; exact hl, by simpa using rv⟩) (fun b u z => by have z' : (none : Option HO) = some u := z; cases z') (fun b z => absurd rfl z) fun z => absurd rfl z
  | none =>
    refine core (fun b => if b = a then some (.frz { cls := .type "list", data := .seq vs.toArray } (.lst (ns.map V.int))) else none) (fun b => ?_) (.inl (.inr ⟨{ cls := .type "list", data := .seq vs.toArray }, if_pos rfl⟩)) (fun b u z => ?_) (fun b z => ?_) fun _ => hk
    · by_cases hb : b = a
      · exact .inr ⟨_, _, if_pos hb⟩
      · exact .inl (if_neg hb)
    · by_cases hb : b = a
      · have z' := (if_pos hb).symm.trans z
        cases z'
        subst hb
        exact ⟨ha, by rw [List.length_map]; exact hl, vs, _, rv, ha⟩
      · have z' := (if_neg hb).symm.trans z
        cases z'
    · by_cases hb : b = a
      · exact hb
      · exact absurd (if_neg hb) z
end L2

namespace L2
open PySem PySem.Spec PyProof.Rows

/-- the goal that k_head leaves (case hc), from the law's promise. F gives the function object fd (K's own) once, then the promise over every base -/
theorem walk_of {l : PySem.W.OpenLaw} {n k : Nat} {q : Program} {loose : List Str} {XP : (Str → Option Value) → Heap → Prop} {YP : World → Heap → Prop} {d : DefRec} {K : Params → PySem.W.Frag} {CX : World → CXT} {sp : World → Sp} {x : Str}
    (hn : l.most = some n) (hn2 : n ≤ sizeLine) (hdf : d.params.defaults = []) (hr : Room k callerA)
    (hY : ∀ (w : World) (h : Heap), YP w h → (K w.params).In h)
    (F : ∀ (w : World) (mg : Str → Option Value) (fa : Addr) (h : Heap), (K w.params).In h → h.Ns mainGlobals mg → mg d.name = some (.ref fa) →
      ∃ fd : FuncData, (∀ (s : Shared) (u : Value), BindsTo s fd ⟨[u], []⟩ [(x, u)]) ∧
        ∀ base : Heap, (K w.params).In base → base.Ns mainGlobals mg → FnOk l.prog w (K w.params) mg base (CX w) k fa fd [x] (sp w))
    (hsp : ∀ (w : World) (H : Hp) (a : Addr) (ns : List Int), ns.length ≤ n → Only H → SqL (K w.params) H a (ns.map V.int) → sp w [.ref a] H (fun v _ => v = .bl true) fun _ _ _ => False)
    (hCX : ∀ (w : World) (H : Hp) (s : Shared) (e : Value) (s' : Shared), CX w [] H s (fun _ _ _ => False) e s' → False) :
    PySem.W.WalkO q loose XP YP l.row.toRowW d [] (fun f vs => PySem.call f vs) := by
  refine Att.attach_call hn hdf fun w s₀ s₁ mg mb fa o pm cd doc a vs ns G Y ho hd hcd hmg hobj hints hlen hg => ?_
  have KX := hY w _ Y
  obtain ⟨fd, hb, hF⟩ := F w mg fa _ KX G.T.g hmg
  exact law_call KX G.T.g G.T.b G.T.builtins G.T.nolimit hg hobj hints (Nat.le_trans hlen hn2) hr hF hb (fun H hO hS => hsp w H a ns hlen hO hS) fun H e s' => hCX w H s₁ e s'
end L2

/- THE LAST THEOREM (shape; LID, My.* are yours):
   My.Adr: a structure of the addresses that your layer names (classes, functions); My.Txt K t: a structure (Prop) of the equations over K;
   My.txt_mk : {K} {implicit addresses ..} (e1 : nsIn K mainGlobals "law" = some (some (.ref f))) (e2 : K.lookup f = some ⟨oc, od, .func (fnOf "law" "law" params body scope dV kV doc pm an cdv ct), sl⟩) (e3 : codeIn K cdv "law" = true) .. : ∃ t, My.Txt K t

set_option maxRecDepth 100000 in
set_option maxHeartbeats 0 in
theorem PySem.Challenge.cw_LID_holds : PySem.Challenge.rw_LID.Holds := by
  w_on; o_law; k_head; (case hw => w_witness2)
  k_fill
  refine L2.walk_of (l := PySem.Challenge.rw_LID) (n := 63) (k := 40) (x := "script") (CX := fun w => ..) (sp := fun _ => My.sp_law) rfl (by decide) rfl ⟨rfl, by decide, by decide⟩ (fun w h Y => PySem.W.kIn_of Y) ?F ?S ?C
  case F =>
    intro w mg fa h KX G hmg
    have T : ∃ t, My.Txt (L2.KOf KX) t := by
      dsimp only [L2.KOf]                          -- K must stand as «<heap const> w.params» for k_is
      refine' My.txt_mk ?e1 ?e2 ?e3 ..
      (case e1 => PySem.W.k_is)                    -- in the order: a name -> its address -> its object -> its parts
      (case e2 => PySem.W.k_is)
      ..
    obtain ⟨t, T⟩ := T
    have e0 := hmg.symm.trans (PySem.W.mg_of KX G T.law)
    cases e0                                       -- fa is the law's own address
    exact ⟨_, fun s u => .of_eq rfl, fun base kb nb => My.law_fn T kb nb⟩     -- if «.of_eq rfl» comes too early: refine' ⟨_, ?b, fun base kb nb => My.law_fn T kb nb⟩; exact fun s u => .of_eq rfl
  case S => exact fun w H a ns hl hO hS => ..
  case C => exact ..
(the tactic k_is has no namespace: write k_is) -/

/-! SHORT WORDS over the layer: a def of the text, its body, what a loop and a test want. -/
namespace L2
open PySem PySem.Spec PyProof.Rows

noncomputable def defArgs (s : Stmt) : Arguments := match s with
  | .FunctionDef _ a _ _ _ _ _ _ _ _ => a
  | _ => { posonlyargs := [], args := [], vararg := none, kwonlyargs := [], kw_defaults := [], kwarg := none, defaults := [] }
noncomputable def defBody (s : Stmt) : List Stmt := match s with
  | .FunctionDef _ _ b _ _ _ _ _ _ _ => b
  | _ => []
noncomputable def defScope (s : Stmt) : Scope := match s with
  | .FunctionDef _ _ _ _ _ _ sc _ _ _ => sc
  | _ => { kind := .function, names := [], isGenerator := false, isCoroutine := false }

/-! ### a def (or method) of the text as it stands behind the top -/
structure Fun (K : PySem.W.Frag) (x qual : Str) (st : Stmt) (f : Addr) (fd : FuncData) : Prop where
  ex : ∃ (oc : Value) (od : Option Addr) (kV doc pm : Value) (an : Option Addr) (cdv ct : Value) (osl : Array (Option Value)),
    fd = PySem.W.fnOf x qual (defArgs st) (defBody st) (defScope st) .none kV doc pm an cdv ct ∧ K.lookup f = some ⟨oc, od, .func fd, osl⟩ ∧ PySem.W.codeIn K cdv qual = true
  kp : PySem.W.keepIn K (.ref f) = true
section
variable {P : Program} {w : World} {K : PySem.W.Frag} {mg : Str → Option Value} {base : Heap}
/-- how its arguments bind (no defaults): h is «fun _ _ _ _ _ _ us hl => match us, hl with | [_, _], _ => rfl», one _ a parameter -/
theorem Fun.binds {x qual : Str} {st : Stmt} {f : Addr} {fd : FuncData} {ps : List Str} (F : Fun K x qual st f fd)
    (h : ∀ (kV doc pm : Value) (an : Option Addr) (cdv ct : Value) (us : List Value), us.length = ps.length → bindArgs (PySem.W.fnOf x qual (defArgs st) (defBody st) (defScope st) .none kV doc pm an cdv ct) ⟨us, []⟩ = pure (ps.zip us)) : Binds K fd ps [] := by
  obtain ⟨oc, od, kV, doc, pm, an, cdv, ct, osl, rfl, lk, hcd⟩ := F.ex
  exact .all (h kV doc pm an cdv ct)
theorem fun_mk {x qual : Str} {st : Stmt} {f : Addr} {oc : Value} {od an : Option Addr} {osl : Array (Option Value)} {kV doc pm cdv ct : Value} (l : K.lookup f = some ⟨oc, od, .func (PySem.W.fnOf x qual (defArgs st) (defBody st) (defScope st) .none kV doc pm an cdv ct), osl⟩)
    (c : PySem.W.codeIn K cdv qual = true) (k : PySem.W.keepIn K (.ref f) = true) : Fun K x qual st f (PySem.W.fnOf x qual (defArgs st) (defBody st) (defScope st) .none kV doc pm an cdv ct) := ⟨⟨oc, od, kV, doc, pm, an, cdv, ct, osl, rfl, l, c⟩, k⟩
end
/-! ### expressions in short: the name that stands in the i-th slot -/
section
variable {X : Cx}
theorem pv (i : Nat) {x : Str} {pos : Pos} (hN : X.N[i]? = some x := by rfl) (hv : Vis X.env.scope x := by first | exact Or.inl rfl | exact Or.inr (Or.inl rfl) | exact Or.inr (Or.inr rfl)) (hd : (x == ("__debug__" : Str)) = false := by decide)
    (hcd : (x == ("__classdict__" : Str)) = false := by decide) : PE X (.Name x pos) (tVar i) := pe_var hN hv hd hcd
end

/-! ### heaps -/
/-- all that was tracked is as it was -/
noncomputable def Same (H H' : Hp) : Prop := ∀ b o, H b = some o → H' b = some o
theorem Same.refl (H : Hp) : Same H H := fun _ _ h => h
theorem Same.trans {H H1 H2 : Hp} (a : Same H H1) (b : Same H1 H2) : Same H H2 := fun c o h => b c o (a c o h)
end L2
set_option maxHeartbeats 4000000
set_option exponentiation.threshold 20000
namespace L2
open PySem PySem.Spec PyProof.Rows
section
variable {X : Cx}
/-! ### range(a, b, c) -/
noncomputable def Itc (lo c : Int) (n : Nat) : It := ⟨fun i _ => i < n, fun i H x H' => H' = H ∧ x = .int (lo + i * c), fun i _ => n ≤ i⟩
variable {tg : Expr}
noncomputable abbrev iRng3 (ta : TA) : TI := fun σ H R => ta σ H fun vs H1 => ∃ (i j c : Int) (n : Nat), vs = [.int i, .int j, .int c] ∧ 0 < c ∧ c < 1073741824 ∧ Builtin.Range.small i j c = true ∧ Builtin.Range.rangeSize i j c = (n : Int) ∧ R (Itc i c n) H1
end
end L2
namespace L2
open PySem PySem.Spec PyProof.Rows
end L2

namespace L2
open PySem PySem.Spec PyProof.Rows
/-! ### exceptions -/
section
variable {P : Program} {w : World} {H H' : Hp} {h : Heap} {a : Addr} {o : HO}
theorem ObjOk.here (x : ObjOk P w H h a o) : ∃ ob, h.get? a = some ob := by
  cases o with
  | lst xs => obtain ⟨_, _, _, _, e⟩ := x; exact ⟨_, e⟩
  | tup xs => obtain ⟨_, _, _, e⟩ := x; obtain ⟨ob, e, _⟩ := e; exact ⟨_, e⟩
  | dK kvs => obtain ⟨_, _, _, _, e⟩ := x; obtain ⟨ob, _, _, e, _⟩ := e; exact ⟨_, e⟩
  | dT kvs => obtain ⟨_, _, _, _, ob, _, _, e, _⟩ := x; exact ⟨_, e⟩
  | set S n => obtain ⟨ob, _, _, _, e, _⟩ := x; exact ⟨_, e⟩
  | ins C dx fs => obtain ⟨_, _, _, e, _⟩ := x; exact ⟨_, e⟩
  | own y => exact x
  | xd fs => obtain ⟨_, ⟨ob, _, _, e, _⟩, _⟩ := x; exact ⟨_, e⟩
  | met f y => exact ⟨_, x⟩
  | rng lo hi => obtain ⟨_, _, _, e⟩ := x; exact ⟨_, e⟩
  | frz ob u => exact ⟨_, x.1⟩
  | tbl ps => exact ⟨_, x⟩
  | ext φ => exact x.2.1
theorem HOk.none_of (ok : HOk P w H h) (e : h.get? a = none) : H a = none := by
  cases q : H a with
  | none => rfl
  | some o =>
    obtain ⟨ob, z⟩ := (ok a o q).here
    rw [e] at z; cases z
end
/-- an exception in flight: of the class cls, at ea; what the call found at s (H there) and what is tracked now (H') stands in B -/
structure Fly (P : Program) (w : World) (l : List Env) (H H' : Hp) (s : Shared) (ea : Addr) (cls : Value) (s' : Shared) : Prop where
  os : s'.os = s.os
  bare : AllBare s'.gens
  un : Un (frs l) [] H H' s.heap s'.heap
  hok : HOk P w H' s'.heap
  ne : H' ea = none
  new : s.heap.get? ea = none
  fly : ∃ B a0, Heap.FlyingW B l ea cls a0 s'.heap ∧ (∀ b o, s'.heap.get? b = some o → ((∃ o', s.heap.get? b = some o') ∨ H' b ≠ none) → b ∉ frs l → B.get? b = some o)
noncomputable def CX1 (P : Program) (w : World) : CXT := fun outer H s E e s' => ∃ ea cls H', e = .ref ea ∧ Fly P w outer H H' s ea cls s' ∧ E cls none H'
/-- the context is a def's body: its own frame stands on top -/
structure Own (X : Cx) : Prop where
  stk : X.stack = X.env :: X.outer
  fr : X.env.frame = some X.env.locals
  ex : X.ex = []
section
variable {X : Cx} {pins : List (Addr × Obj)} {σ : St} {H H' : Hp} {s s' : Shared} {ea : Addr} {cls : Value}
theorem frs_cons (O : Own X) : frs X.stack = X.env.locals :: X.fs := by
  rw [O.stk]
  show List.filterMap _ (_ :: _) = _
  rw [List.filterMap_cons, O.fr]
  rfl
theorem Inv.there0 (I : Inv X pins σ H s) (O : Own X) {b : Addr} {o : Obj} (e : X.s₀.heap.get? b = some o) : ∃ o', s.heap.get? b = some o' := I.base.there b o e (by rw [O.ex]; simp)
theorem Inv.ne0 (I : Inv X pins σ H s) {b : Addr} {o : Obj} (e : X.s₀.heap.get? b = some o) : b ≠ X.env.locals := Nat.ne_of_lt (Nat.lt_of_lt_of_le (Heap.lt_size e) I.ok.above)
/-- from a body, an exception that a callee let fly, behind the body's own frame: B stays, the frames' slots may have changed -/
theorem Fly.leave (I : Inv X pins σ H s) (O : Own X) (F : Fly X.prog X.w X.stack H H' s ea cls s') {h' : Heap} {B : Heap} {a0 : Value}
    (hf : Heap.FlyingW B X.stack ea cls a0 s'.heap) (cov : ∀ b o, s'.heap.get? b = some o → ((∃ o', s.heap.get? b = some o') ∨ H' b ≠ none) → b ∉ frs X.stack → B.get? b = some o)
    (hf' : Heap.FlyingW B X.outer ea cls a0 h') (up : s'.heap.UpToSlots h') : Fly X.prog X.w X.outer X.H₀ H' X.s₀ ea cls { s' with heap := h' } := by
  have fst : frs X.stack = X.env.locals :: X.fs := frs_cons O
  have nin : ∀ {b : Addr}, b ≠ X.env.locals → b ∉ X.fs → b ∉ frs X.stack := fun h1 h2 => by rw [fst]; simp [h1, h2]
  have trk : ∀ {b : Addr}, H' b ≠ none → b ∉ frs X.stack := fun {b} hb hm => by
    have h1 := I.stkFree b hm
    obtain ⟨_, o, ho, _⟩ := I.stack.mem hm
    exact hb (F.un.free b o ho h1 (by simp))
  have keepB : ∀ {b : Addr} {o : Obj}, s'.heap.get? b = some o → ((∃ o', s.heap.get? b = some o') ∨ H' b ≠ none) → b ∉ frs X.stack → h'.get? b = some o := fun e1 e2 e3 => hf'.1 _ _ (cov _ _ e1 e2 e3)
  have slotOf : ∀ {b : Addr} {o : Obj}, b ∈ frs X.stack → s'.heap.get? b = some o → ∃ sl, h'.get? b = some { o with slots := sl } := fun {b o} hm e => by
    obtain ⟨_, o', ho', hn⟩ := hf.2.2.1.mem hm
    rw [e] at ho'; cases ho'
    exact up b o e hn
  refine ⟨F.os.trans I.os, F.bare, ⟨?_, ?_, ?_, ?_, ?_, ?_, ?_⟩, ?_, F.ne, ?_, ⟨B, a0, hf', ?_⟩⟩
  · intro b o e n hb hx
    have e1 := I.base.keep b o e n hb (by rw [O.ex]; simp)
    have n1 := I.base.free b o e n (by rw [O.ex]; simp)
    have hs : b ∉ frs X.stack := nin (I.ne0 e) hb
    exact keepB (F.un.keep b o e1 n1 hs (by simp)) (.inl ⟨o, e1⟩) hs
  · intro b o e n hb hx
    obtain ⟨sl, e1⟩ := I.base.slot b o e n hb (by rw [O.ex]; simp)
    have n1 := I.base.free b o e n (by rw [O.ex]; simp)
    have hs : b ∈ frs X.stack := by rw [fst]; exact List.mem_cons_of_mem _ hb
    obtain ⟨sl2, e2⟩ := F.un.slot b _ e1 n1 hs (by simp)
    obtain ⟨sl3, e3⟩ := slotOf hs e2
    exact ⟨sl3, e3⟩
  · intro b o e n hx
    obtain ⟨o1, e1⟩ := I.there0 O e
    exact F.un.free b o1 e1 (I.base.free b o e n (by rw [O.ex]; simp)) (by simp)
  · intro b o e hx
    obtain ⟨o1, e1⟩ := I.there0 O e
    obtain ⟨o2, e2⟩ := F.un.there b o1 e1 (by simp)
    by_cases hs : b ∈ frs X.stack
    · obtain ⟨sl, e3⟩ := slotOf hs e2
      exact ⟨_, e3⟩
    · exact ⟨o2, keepB e2 (.inl ⟨o1, e1⟩) hs⟩
  · exact fun b xs e => F.un.tups b xs (I.base.tups b xs e)
  · exact fun b o u e => F.un.frzs b o u (I.base.frzs b o u e)
  · intro b ps e
    obtain ⟨m1, e1⟩ := I.base.tbls b ps e
    obtain ⟨m2, e2⟩ := F.un.tbls b _ e1
    exact ⟨m1 ++ m2, by rw [e2, Array.append_assoc]⟩
  · intro a o e
    refine (F.hok a o e).stay (fun b u hb z => ?_) (fun b z => z) (fun b xs z => z)
    have hb' : H' b ≠ none := by
      rcases hb with rfl | hb
      · rw [e]; simp
      · rw [hb]; simp
    exact keepB z (.inr hb') (trk hb')
  · show X.s₀.heap.get? ea = none
    cases q : X.s₀.heap.get? ea with
    | none => rfl
    | some o =>
      obtain ⟨o1, e1⟩ := I.there0 O q
      rw [F.new] at e1; cases e1
  · intro b o e c hb
    have c' : (∃ o', s.heap.get? b = some o') ∨ H' b ≠ none := by
      rcases c with ⟨o', c⟩ | c
      · exact .inl (I.there0 O c)
      · exact .inr c
    have hs : b ∉ frs X.stack := by
      rcases c with ⟨o', c⟩ | c
      · exact nin (I.ne0 c) hb
      · exact trk c
    have ex : ∃ o2, s'.heap.get? b = some o2 := by
      rcases c' with ⟨o', c1⟩ | c1
      · exact F.un.there b o' c1 (by simp)
      · cases q : H' b with
        | none => exact absurd q c1
        | some u => exact (F.hok b u q).here
    obtain ⟨o2, e2⟩ := ex
    have z := keepB e2 c' hs
    have z' : h'.get? b = some o := e
    rw [z] at z'; cases z'
    exact cov b o e2 c' hs
end
end L2
namespace L2
open PySem PySem.Spec PyProof.Rows
section
variable {X : Cx} {pins : List (Addr × Obj)} {σ : St} {H H' : Hp} {s s' : Shared} {ea : Addr} {cls : Value}
theorem frs_in (l : List Env) : ∀ env ∈ l, ∀ b, env.frame = some b → b ∈ frs l := fun env he b hb => List.mem_filterMap.mpr ⟨env, he, hb⟩
/-- from a body, an exception that was just made -/
theorem Fly.made (I : Inv X pins σ H s) (O : Own X) {vs : List Value} (hx : Heap.MadeExcOf s.heap s'.heap ea cls vs) (hos : s'.os = s.os) (hg : AllBare s'.gens) {h' : Heap} {t : Addr}
    (hf' : Heap.FlyingW (PySem.W.hideAll s.heap (frs X.stack)) X.outer ea cls (.ref t) h') (up : s'.heap.UpToSlots h') : Fly X.prog X.w X.outer X.H₀ H X.s₀ ea cls { s' with heap := h' } := by
  have fst : frs X.stack = X.env.locals :: X.fs := frs_cons O
  have nin : ∀ {b : Addr}, b ≠ X.env.locals → b ∉ X.fs → b ∉ frs X.stack := fun h1 h2 => by rw [fst]; simp [h1, h2]
  have trk : ∀ {b : Addr}, H b ≠ none → b ∉ frs X.stack := fun {b} hb hm => hb (I.stkFree b hm)
  have keepB : ∀ {b : Addr} {o : Obj}, s.heap.get? b = some o → b ∉ frs X.stack → h'.get? b = some o := fun e1 e3 => hf'.1 _ _ (PySem.W.hideAll_get _ e1 e3)
  have slotOf : ∀ {b : Addr} {o : Obj}, b ∈ frs X.stack → s.heap.get? b = some o → ∃ sl, h'.get? b = some { o with slots := sl } := fun {b o} hm e => by
    obtain ⟨_, o', ho', hn⟩ := I.stack.mem hm
    rw [e] at ho'; cases ho'
    exact up b o (hx.keeps b o e) hn
  refine ⟨hos.trans I.os, hg, ⟨?_, ?_, ?_, ?_, ?_, ?_, ?_⟩, ?_, ?_, ?_, ⟨_, _, hf', ?_⟩⟩
  · intro b o e n hb hx'
    exact keepB (I.base.keep b o e n hb (by rw [O.ex]; simp)) (nin (I.ne0 e) hb)
  · intro b o e n hb hx'
    obtain ⟨sl, e1⟩ := I.base.slot b o e n hb (by rw [O.ex]; simp)
    have hs : b ∈ frs X.stack := by rw [fst]; exact List.mem_cons_of_mem _ hb
    obtain ⟨sl3, e3⟩ := slotOf hs e1
    exact ⟨sl3, e3⟩
  · exact fun b o e n hx' => I.base.free b o e n (by rw [O.ex]; simp)
  · intro b o e hx'
    obtain ⟨o1, e1⟩ := I.there0 O e
    by_cases hs : b ∈ frs X.stack
    · obtain ⟨sl, e3⟩ := slotOf hs e1
      exact ⟨_, e3⟩
    · exact ⟨o1, keepB e1 hs⟩
  · exact fun b xs e => I.base.tups b xs e
  · exact fun b o u e => I.base.frzs b o u e
  · exact fun b ps e => I.base.tbls b ps e
  · intro a o e
    refine (I.hok a o e).stay (fun b u hb z => ?_) (fun b z => z) (fun b xs z => z)
    have hb' : H b ≠ none := by
      rcases hb with rfl | hb
      · rw [e]; simp
      · rw [hb]; simp
    exact keepB z (trk hb')
  · exact I.hok.none_of hx.new
  · show X.s₀.heap.get? ea = none
    cases q : X.s₀.heap.get? ea with
    | none => rfl
    | some o =>
      obtain ⟨o1, e1⟩ := I.there0 O q
      rw [hx.new] at e1; cases e1
  · intro b o e c hb
    have hs : b ∉ frs X.stack := by
      rcases c with ⟨o', c⟩ | c
      · exact nin (I.ne0 c) hb
      · exact trk c
    have ex : ∃ o2, s.heap.get? b = some o2 := by
      rcases c with ⟨o', c1⟩ | c1
      · exact I.there0 O c1
      · cases q : H b with
        | none => exact absurd q c1
        | some u => exact (I.hok b u q).here
    obtain ⟨o2, e2⟩ := ex
    have z := keepB e2 hs
    have z' : h'.get? b = some o := e
    rw [z] at z'; cases z'
    exact PySem.W.hideAll_get _ e2 hs
end
section
variable {CX : CXT} {P : Program} {w : World} {K : PySem.W.Frag} {mg : Str → Option Value} {base : Heap} {N : List Str} {qual : Str} {scope : Scope} {f : Addr} {cd : Value} {A : Around} {outer : List Env} {s₀ : Shared} {H₀ : Hp} {E : XK}
theorem own_cx : Own (cxOf CX P w K mg base N qual scope f cd A outer s₀ H₀ E) := ⟨rfl, rfl, rfl⟩
/-- an exception of a callee goes on through the body -/
theorem passX {E' : XK} (h : ∀ c H', E' c none H' → E c none H') : Passes (CX1 P w) (cxOf (CX1 P w) P w K mg base N qual scope f cd A outer s₀ H₀ E) E' := by
  intro pins σ H s e s' I hc
  obtain ⟨ea, cls, H', rfl, F, q⟩ := hc
  obtain ⟨B, a0, hf, cov⟩ := F.fly
  have O : Own (cxOf (CX1 P w) P w K mg base N qual scope f cd A outer s₀ H₀ E) := own_cx
  exact wpAny_leaves_onW (I.ok.frames.trans (congrArg some O.stk)) O.fr hf fun h' hf' up => ⟨ea, cls, H', rfl, F.leave I O hf cov hf' up, h _ _ q⟩
/-- an exception that the body makes -/
theorem made_leaves {pins : List (Addr × Obj)} {σ : St} {H : Hp} {s s' : Shared} {ea : Addr} {cls : Value} {vs : List Value} (I : Inv (cxOf (CX1 P w) P w K mg base N qual scope f cd A outer s₀ H₀ E) pins σ H s)
    (hx : Heap.MadeExcOf s.heap s'.heap ea cls vs) (hos : s'.os = s.os) (hg : AllBare s'.gens) (q : E cls none H) : (cxOf (CX1 P w) P w K mg base N qual scope f cd A outer s₀ H₀ E).xe (.ref ea) s' := by
  have O : Own (cxOf (CX1 P w) P w K mg base N qual scope f cd A outer s₀ H₀ E) := own_cx
  have hst := O.stk
  exact wpAny_leaves_madeW (base := PySem.W.hideAll s.heap (frs (cxOf (CX1 P w) P w K mg base N qual scope f cd A outer s₀ H₀ E).stack)) (h := s.heap) (I.ok.frames.trans (congrArg some O.stk)) O.fr (fun b o z => PySem.W.of_hideAll _ z)
    (PySem.W.funFrames_hide (I.stack) (frs_in _)) hx fun h' t hf' _ _ up => ⟨ea, cls, H, rfl, Fly.made I O hx hos hg hf' up, q⟩
end
/-- what of the text an own error class must have to be raised -/
structure Err (K : PySem.W.Frag) (mg : Str → Option Value) (x : Str) (C : Addr) : Prop where
  own : ∀ h : Heap, K.In h → ∃ bm newId B initId, OwnCls x C bm newId mg h ∧ ExcBaseFacts B newId initId bm
end L2

namespace L3
open PySem
/-! ### values without the heap -/
inductive D where
  | non | bl (b : Bool) | int (i : Int) | str (x : Str) | tup (ds : List D) | lst (ds : List D)
/-- what comes: a value, an error of that class, or nothing is said -/
inductive Res (α : Type) where
  | ok (a : α) | err (c : Str) | no
noncomputable def Res.bind {α β : Type} (x : Res α) (f : α → Res β) : Res β := match x with
  | .ok a => f a
  | .err c => .err c
  | .no => .no
/-- a name's slot: nothing is known, a value, a list of one's own (that may be changed), an error of that class -/
inductive Sl where
  | un | val (d : D) | own (ds : List D) | exc (c : Str) | tab (T : List (Str × Str))
noncomputable abbrev Rho := List Sl
/-- what a def hands back: a value; a new list -/
inductive Rt where
  | v (d : D) | f (ds : List D)
noncomputable def Rt.d : Rt → D
  | .v d => d
  | .f ds => .lst ds
inductive Fl where
  | nx (ρ : Rho) | ret (r : Rt) | brk (ρ : Rho) | ctn (ρ : Rho)
noncomputable abbrev Ev := Rho → Res D
noncomputable abbrev Fv := Rho → Res (List D)
noncomputable abbrev Tv := Rho → Res Bool
noncomputable abbrev Sv := Rho → Res Fl
noncomputable abbrev Mir := List D → Res Rt
/-! equality as == says it -/
mutual
noncomputable def eqD : D → D → Bool
  | .non, .non => true
  | .bl a, .bl b => a == b
  | .bl a, .int b => (if a then 1 else 0) == b
  | .int a, .bl b => a == (if b then 1 else 0)
  | .int a, .int b => a == b
  | .str a, .str b => a == b
  | .tup ds, .tup es => eqDs ds es
  | .lst ds, .lst es => eqDs ds es
  | _, _ => false
noncomputable def eqDs : List D → List D → Bool
  | [], [] => true
  | d :: ds, e :: es => eqD d e && eqDs ds es
  | _, _ => false
end
mutual
noncomputable def dep : D → Nat
  | .tup ds => depS ds + 1
  | .lst ds => depS ds + 1
  | _ => 0
noncomputable def depS : List D → Nat
  | [] => 0
  | d :: ds => max (dep d) (depS ds)
end
mutual
/-- no list in it -/
noncomputable def noL : D → Bool
  | .tup ds => noLs ds
  | .lst _ => false
  | _ => true
noncomputable def noLs : List D → Bool
  | [] => true
  | d :: ds => noL d && noLs ds
end
theorem dep_mem : ∀ {ds : List D} {d : D}, d ∈ ds → dep d ≤ depS ds
  | e :: ds, d, h => by
    rw [depS]
    rcases List.mem_cons.mp h with rfl | h
    · exact Nat.le_max_left ..
    · exact Nat.le_trans (dep_mem h) (Nat.le_max_right ..)
theorem noLs_iff : ∀ {ds : List D}, noLs ds = true ↔ ∀ d ∈ ds, noL d = true
  | [] => by simp [noLs]
  | d :: ds => by rw [noLs, Bool.and_eq_true, noLs_iff]; simp
theorem eqDs_iff : ∀ (ds es : List D), eqDs ds es = ((List.range (min ds.length es.length)).all (fun j => eqD (ds.getD j .non) (es.getD j .non)) && ds.length == es.length)
  | [], [] => rfl
  | [], e :: es => by simp [eqDs]
  | d :: ds, [] => by simp [eqDs]
  | d :: ds, e :: es => by
    rw [eqDs, eqDs_iff ds es]
    have h : min (d :: ds).length (e :: es).length = min ds.length es.length + 1 := by simp only [List.length_cons]; omega
    rw [h, List.range_succ_eq_map]
    simp [List.all_map, Function.comp_def, Bool.and_assoc]
mutual
theorem eqD_refl : ∀ d : D, eqD d d = true
  | .non => rfl
  | .bl b => by simp [eqD]
  | .int i => by simp [eqD]
  | .str x => by simp [eqD]
  | .tup ds => by rw [eqD]; exact eqDs_refl ds
  | .lst ds => by rw [eqD]; exact eqDs_refl ds
theorem eqDs_refl : ∀ ds : List D, eqDs ds ds = true
  | [] => rfl
  | d :: ds => by rw [eqDs, eqD_refl d, eqDs_refl ds]; rfl
end
/-! ### numbers -/
/-- bits, at least -/
noncomputable def nb (i : Int) : Nat := i.natAbs.log2 + 1
theorem lt_nb (i : Int) : i.natAbs < 2 ^ nb i := Nat.lt_log2_self
theorem nb_le {i : Int} {m : Nat} (h : i.natAbs < 2 ^ m) (hm : 0 < m) : nb i ≤ m := by
  unfold nb
  by_cases h0 : i.natAbs = 0
  · rw [h0]; exact hm
  · exact (Nat.log2_lt h0).mpr h
noncomputable def okMul (i j : Int) : Bool := (decide (-(2 ^ 64) < i) && decide (i < 2 ^ 64)) || (decide (-(2 ^ 64) < j) && decide (j < 2 ^ 64)) || decide (nb i + nb j ≤ 134217728)
noncomputable def okDiv (j : Int) : Bool := decide (j ≠ 0) && decide (nb j ≤ 9000)
noncomputable def okPow (i j : Int) : Bool := decide (0 ≤ j) && decide ((nb i : Int) * j ≤ 2 ^ 27)
/-! ### operations -/
noncomputable abbrev Op2 := D → D → Res D
noncomputable def oAdd : Op2
  | .int i, .int j => .ok (.int (i + j))
  | .tup a, .tup b => if a.length + b.length ≤ 16777216 then .ok (.tup (a ++ b)) else .no
  | _, _ => .no
noncomputable def oAddI : Op2
  | .int i, .int j => .ok (.int (i + j))
  | _, _ => .no
noncomputable def oSub : Op2
  | .int i, .int j => .ok (.int (i - j))
  | _, _ => .no
noncomputable def oMul : Op2
  | .int i, .int j => if okMul i j = true then .ok (.int (i * j)) else .no
  | _, _ => .no
noncomputable def oDiv : Op2
  | .int i, .int j => if okDiv j = true then .ok (.int (i.fdiv j)) else .no
  | _, _ => .no
noncomputable def oMod : Op2
  | .int i, .int j => if j ≠ 0 then .ok (.int (i.fmod j)) else .no
  | _, _ => .no
noncomputable def oPow : Op2
  | .int i, .int j => if okPow i j = true then .ok (.int (i ^ j.toNat)) else .no
  | _, _ => .no
noncomputable def oEq (x y : D) : Res D := if dep x ≤ 50 then .ok (.bl (eqD x y)) else .no
noncomputable def oNe (x y : D) : Res D := if dep x ≤ 50 then .ok (.bl (!eqD x y)) else .no
noncomputable def oLt : Op2
  | .int i, .int j => .ok (.bl (decide (i < j)))
  | _, _ => .no
noncomputable def oLe : Op2
  | .int i, .int j => .ok (.bl (decide (i ≤ j)))
  | _, _ => .no
noncomputable def oGt : Op2
  | .int i, .int j => .ok (.bl (decide (j < i)))
  | _, _ => .no
noncomputable def oGe : Op2
  | .int i, .int j => .ok (.bl (decide (j ≤ i)))
  | _, _ => .no
/-- item at i, counted from behind where i is below 0 -/
noncomputable def atD (ds : List D) (i : Int) : Option D := if 0 ≤ i then ds[i.toNat]? else if 0 ≤ (ds.length : Int) + i then ds[((ds.length : Int) + i).toNat]? else none
noncomputable def ofO {α : Type} : Option α → Res α
  | some a => .ok a
  | none => .no
noncomputable def oIx : Op2
  | .tup ds, .int i => ofO (atD ds i)
  | .lst ds, .int i => ofO (atD ds i)
  | _, _ => .no
noncomputable def oIn : Op2
  | d, .lst ds => if depS ds ≤ 50 then .ok (.bl (ds.any fun e => eqD e d)) else .no
  | d, .tup ds => if depS ds ≤ 50 then .ok (.bl (ds.any fun e => eqD e d)) else .no
  | _, _ => .no
noncomputable def oNotIn : Op2
  | d, .lst ds => if depS ds ≤ 50 then .ok (.bl (!(ds.any fun e => eqD e d))) else .no
  | d, .tup ds => if depS ds ≤ 50 then .ok (.bl (!(ds.any fun e => eqD e d))) else .no
  | _, _ => .no
noncomputable def oNeg : D → Res D
  | .int i => .ok (.int (-i))
  | _ => .no
noncomputable def oNot : D → Res D
  | .bl b => .ok (.bl (!b))
  | _ => .no
/-! ### expressions -/
noncomputable def eVar (i : Nat) (ρ : Rho) : Res D := match ρ[i]? with
  | some (.val d) => .ok d
  | _ => .no
noncomputable def eC (d : D) (_ρ : Rho) : Res D := .ok d
noncomputable def eOp (o : Op2) (a b : Ev) (ρ : Rho) : Res D := (a ρ).bind fun x => (b ρ).bind fun y => o x y
noncomputable def eUn (o : D → Res D) (a : Ev) (ρ : Rho) : Res D := (a ρ).bind o
noncomputable def eAnd (a b : Ev) (ρ : Rho) : Res D := (a ρ).bind fun x => match x with
  | .bl c => if c = true then b ρ else .ok (.bl false)
  | _ => .no
noncomputable def eOr (a b : Ev) (ρ : Rho) : Res D := (a ρ).bind fun x => match x with
  | .bl c => if c = true then .ok (.bl true) else b ρ
  | _ => .no
noncomputable def eIf (t : Tv) (a b : Ev) (ρ : Rho) : Res D := (t ρ).bind fun c => if c = true then a ρ else b ρ
noncomputable def aNil (_ρ : Rho) : Res (List D) := .ok []
noncomputable def aCons (e : Ev) (r : Fv) (ρ : Rho) : Res (List D) := (e ρ).bind fun d => (r ρ).bind fun ds => .ok (d :: ds)
noncomputable def eTup (a : Fv) (ρ : Rho) : Res D := (a ρ).bind fun ds => if ds.length ≤ 16777216 then .ok (.tup ds) else .no
noncomputable def eCall (m : Mir) (a : Fv) (ρ : Rho) : Res D := (a ρ).bind fun ds => (m ds).bind fun r => .ok r.d
/-- len -/
noncomputable def bLen : List D → Res D
  | [.lst ds] => .ok (.int ds.length)
  | [.tup ds] => .ok (.int ds.length)
  | _ => .no
noncomputable def bAbs : List D → Res D
  | [.int i] => .ok (.int (if i < 0 then -i else i))
  | _ => .no
noncomputable def bMax : List D → Res D
  | [.int i, .int j] => .ok (.int (if j > i then j else i))
  | _ => .no
noncomputable def bMin : List D → Res D
  | [.int i, .int j] => .ok (.int (if j < i then j else i))
  | _ => .no
noncomputable def bTup : List D → Res D
  | [.lst ds] => .ok (.tup ds)
  | [.tup ds] => .ok (.tup ds)
  | _ => .no
noncomputable def eB (b : List D → Res D) (a : Fv) (ρ : Rho) : Res D := (a ρ).bind b
/-- the kinds' names -/
noncomputable def tyN : D → String
  | .non => "NoneType" | .bl _ => "bool" | .int _ => "int" | .str _ => "str" | .tup _ => "tuple" | .lst _ => "list"
noncomputable def isT (T : String) (d : D) : Bool := tyN d == T || (T == "int" && tyN d == "bool")
noncomputable def eIsT (T : String) (a : Ev) (ρ : Rho) : Res D := (a ρ).bind fun d => .ok (.bl (isT T d))
noncomputable def isNon : D → Bool
  | .non => true
  | _ => false
noncomputable def eIsN (a : Ev) (ρ : Rho) : Res D := (a ρ).bind fun d => .ok (.bl (isNon d))
noncomputable def eNotN (a : Ev) (ρ : Rho) : Res D := (a ρ).bind fun d => .ok (.bl (!isNon d))
/-- lists of one's own, seen as values -/
noncomputable def Sl.frz : Sl → Sl
  | .own ds => .val (.lst ds)
  | s => s
noncomputable def eFrz (e : Ev) (ρ : Rho) : Res D := (e (ρ.map Sl.frz)).bind fun d => if noL d = true then .ok d else .no
/-- new lists -/
noncomputable def fLst (a : Fv) (ρ : Rho) : Res (List D) := (a ρ).bind fun ds => if ds.length ≤ 16777216 then .ok ds else .no
noncomputable def fCall (m : Mir) (a : Fv) (ρ : Rho) : Res (List D) := (a ρ).bind fun ds => (m ds).bind fun r => match r with
  | .f ds => .ok ds
  | .v _ => .no
noncomputable def fList (a : Fv) (ρ : Rho) : Res (List D) := (a ρ).bind fun ds => match ds with
  | [.lst ds] => .ok ds
  | [.tup ds] => .ok ds
  | _ => .no
noncomputable def fCat (a b : Ev) (ρ : Rho) : Res (List D) := (a ρ).bind fun x => (b ρ).bind fun y => match x, y with
  | .lst ds, .lst es => if ds.length + es.length ≤ 16777216 then .ok (ds ++ es) else .no
  | _, _ => .no
noncomputable def eF (f : Fv) (ρ : Rho) : Res D := (f ρ).bind fun ds => .ok (.lst ds)
noncomputable def fFrz (f : Fv) (ρ : Rho) : Res (List D) := (f (ρ.map Sl.frz)).bind fun ds => if noLs ds = true then .ok ds else .no
/-! slices with step 1 -/
noncomputable def cut (n : Nat) (i : Option Int) (d : Nat) : Nat := match i with
  | none => d
  | some i => if 0 ≤ i then min i.toNat n else ((n : Int) + i).toNat
noncomputable def sliceD (ds : List D) (lo hi : Option Int) : List D := (ds.drop (cut ds.length lo 0)).take (cut ds.length hi ds.length - cut ds.length lo 0)
noncomputable abbrev Ov := Rho → Res (Option Int)
noncomputable def oN (_ρ : Rho) : Res (Option Int) := .ok none
noncomputable def oS (e : Ev) (ρ : Rho) : Res (Option Int) := (e ρ).bind fun d => match d with
  | .int i => .ok (some i)
  | _ => .no
noncomputable def fSl (a : Ev) (lo hi : Ov) (ρ : Rho) : Res (List D) := (a ρ).bind fun x => (lo ρ).bind fun l => (hi ρ).bind fun h => match x with
  | .lst ds => .ok (sliceD ds l h)
  | _ => .no
noncomputable def eSlT (a : Ev) (lo hi : Ov) (ρ : Rho) : Res D := (a ρ).bind fun x => (lo ρ).bind fun l => (hi ρ).bind fun h => match x with
  | .tup ds => if (sliceD ds l h).length < ds.length then .ok (.tup (sliceD ds l h)) else .no
  | _ => .no
/-! ### tests -/
noncomputable def tVal (e : Ev) (ρ : Rho) : Res Bool := (e ρ).bind fun d => match d with
  | .bl b => .ok b
  | _ => .no
/-- own lists seen as values -/
noncomputable def tFrzB (t : Tv) (ρ : Rho) : Res Bool := t (ρ.map Sl.frz)
noncomputable def tNotB (t : Tv) (ρ : Rho) : Res Bool := (t ρ).bind fun b => .ok (!b)
noncomputable def tAndB (t u : Tv) (ρ : Rho) : Res Bool := (t ρ).bind fun b => if b = true then u ρ else .ok false
noncomputable def tOrB (t u : Tv) (ρ : Rho) : Res Bool := (t ρ).bind fun b => if b = true then .ok true else u ρ
/-! ### statements -/
noncomputable def sNext (ρ : Rho) : Res Fl := .ok (.nx ρ)
noncomputable def sSeq (a b : Sv) (ρ : Rho) : Res Fl := (a ρ).bind fun f => match f with
  | .nx ρ' => b ρ'
  | f => .ok f
noncomputable def sIf (t : Tv) (a b : Sv) (ρ : Rho) : Res Fl := (t ρ).bind fun c => if c = true then a ρ else b ρ
noncomputable def sSet (i : Nat) (e : Ev) (ρ : Rho) : Res Fl := (e ρ).bind fun d => .ok (.nx (ρ.set i (.val d)))
noncomputable def sOwn (i : Nat) (f : Fv) (ρ : Rho) : Res Fl := (f ρ).bind fun ds => .ok (.nx (ρ.set i (.own ds)))
noncomputable def sDrop (e : Ev) (ρ : Rho) : Res Fl := (e ρ).bind fun _ => .ok (.nx ρ)
noncomputable def sRet (e : Ev) (ρ : Rho) : Res Fl := (e (ρ.map Sl.frz)).bind fun d => .ok (.ret (.v d))
noncomputable def sRetF (f : Fv) (ρ : Rho) : Res Fl := (f (ρ.map Sl.frz)).bind fun ds => .ok (.ret (.f ds))
noncomputable def sRetOwn (i : Nat) (ρ : Rho) : Res Fl := match ρ[i]? with
  | some (.own ds) => .ok (.ret (.f ds))
  | _ => .no
noncomputable def sRetN (_ρ : Rho) : Res Fl := .ok (.ret (.v .non))
noncomputable def sBrk (ρ : Rho) : Res Fl := .ok (.brk ρ)
noncomputable def sCtn (ρ : Rho) : Res Fl := .ok (.ctn ρ)
noncomputable def sRaise (c : Str) (a : Fv) (ρ : Rho) : Res Fl := (a ρ).bind fun ds => if ds.length ≤ 16777216 then .err c else .no
noncomputable def sNo (_ρ : Rho) : Res Fl := .no
/-- x.append(e), x a list of one's own -/
noncomputable def sApp (i : Nat) (e : Ev) (ρ : Rho) : Res Fl := match ρ[i]? with
  | some (.own ds) => (e ρ).bind fun d => if ds.length < 16777216 then .ok (.nx (ρ.set i (.own (ds ++ [d])))) else .no
  | _ => .no
/-- x.extend(e) -/
noncomputable def sExt (i : Nat) (e : Fv) (ρ : Rho) : Res Fl := match ρ[i]? with
  | some (.own ds) => (e ρ).bind fun es => if ds.length + es.length ≤ 16777216 then .ok (.nx (ρ.set i (.own (ds ++ es)))) else .no
  | _ => .no
noncomputable def sPop (i : Nat) (ρ : Rho) : Res Fl := match ρ[i]? with
  | some (.own ds) => if ds.length = 0 then .no else .ok (.nx (ρ.set i (.own ds.dropLast)))
  | _ => .no
noncomputable def sAug (i : Nat) (o : Op2) (e : Ev) (ρ : Rho) : Res Fl := match ρ[i]? with
  | some (.val x) => (e ρ).bind fun y => (o x y).bind fun d => .ok (.nx (ρ.set i (.val d)))
  | _ => .no
/-- own lists become values -/
noncomputable def sFrz (s : Sv) (ρ : Rho) : Res Fl := s (ρ.map Sl.frz)
noncomputable def frzAt (i : Nat) (ρ : Rho) : Rho := match ρ[i]? with
  | some (.own ds) => ρ.set i (.val (.lst ds))
  | _ => ρ
noncomputable def sFrzAt (i : Nat) (s : Sv) (ρ : Rho) : Res Fl := s (frzAt i ρ)
/-! ### errors that are caught -/
noncomputable def noErr {α : Type} : Res α → Res α
  | .err _ => .no
  | r => r
/-- a call whose value is dropped, or stored -/
noncomputable def xDrop (m : Mir) (a : Fv) (ρ : Rho) : Res Fl := (noErr (a ρ)).bind fun ds => (m ds).bind fun _ => .ok (.nx ρ)
noncomputable def xSet (i : Nat) (m : Mir) (a : Fv) (ρ : Rho) : Res Fl := (noErr (a ρ)).bind fun ds => (m ds).bind fun r => .ok (.nx (ρ.set i (.val r.d)))
noncomputable def xIf (t : Tv) (a b : Sv) (ρ : Rho) : Res Fl := (noErr (t ρ)).bind fun c => if c = true then a ρ else b ρ
/-- try: body; except E as n: h. tb: the classes under E that may come -/
noncomputable def sTry (tb : List Str) (i : Nat) (b h : Sv) (ρ : Rho) : Res Fl := match b ρ with
  | .err c => if tb.contains c = true then (match h (ρ.set i (.exc c)) with
      | .ok (.nx ρ') => .ok (.nx (ρ'.set i .un))
      | _ => .no) else .no
  | r => r
/-- isinstance(e, C), e an error: anc tells the names of the classes above each one -/
noncomputable def eIsE (anc : List (Str × List Str)) (i : Nat) (cs : List Str) (ρ : Rho) : Res D := match ρ[i]? with
  | some (.exc c) => (match anc.lookup c with
    | some l => .ok (.bl (cs.any fun x => l.contains x))
    | none => .no)
  | _ => .no
/-- for: the items, the target, the body -/
noncomputable abbrev Gv := D → Rho → Res Rho
noncomputable def gName (i : Nat) (d : D) (ρ : Rho) : Res Rho := .ok (ρ.set i (.val d))
noncomputable def gTup (gs : List D → Rho → Res Rho) (d : D) (ρ : Rho) : Res Rho := match d with
  | .tup ds => gs ds ρ
  | _ => .no
noncomputable def gNil (ds : List D) (ρ : Rho) : Res Rho := match ds with
  | [] => .ok ρ
  | _ => .no
noncomputable def gCons (g : Gv) (r : List D → Rho → Res Rho) (ds : List D) (ρ : Rho) : Res Rho := match ds with
  | d :: ds => (g d ρ).bind fun ρ' => r ds ρ'
  | [] => .no
noncomputable def sUnp (g : Gv) (f : Ev) (ρ : Rho) : Res Fl := (f ρ).bind fun d => (g d ρ).bind fun ρ' => .ok (.nx ρ')
noncomputable def loop (g : Gv) (b : Sv) : List D → Rho → Res Fl
  | [], ρ => .ok (.nx ρ)
  | d :: ds, ρ => (g d ρ).bind fun ρ1 => (b ρ1).bind fun f => match f with
    | .nx ρ2 => loop g b ds ρ2
    | .ctn ρ2 => loop g b ds ρ2
    | .brk ρ2 => .ok (.nx ρ2)
    | .ret r => .ok (.ret r)
noncomputable def sFor (it : Fv) (g : Gv) (b : Sv) (ρ : Rho) : Res Fl := (it ρ).bind fun ds => loop g b ds ρ
noncomputable def iSeq (e : Ev) (ρ : Rho) : Res (List D) := (e ρ).bind fun d => match d with
  | .lst ds => .ok ds
  | .tup ds => .ok ds
  | _ => .no
noncomputable def iLst (e : Ev) (ρ : Rho) : Res (List D) := (e ρ).bind fun d => match d with
  | .lst ds => .ok ds
  | _ => .no
noncomputable def iTpl (e : Ev) (ρ : Rho) : Res (List D) := (e ρ).bind fun d => match d with
  | .tup ds => .ok ds
  | _ => .no
noncomputable def rng (lo : Int) (n : Nat) (c : Int) : List D := (List.range n).map fun (i : Nat) => D.int (lo + (i : Int) * c)
noncomputable def iRng1 (a : Fv) (ρ : Rho) : Res (List D) := (a ρ).bind fun ds => match ds with
  | [.int j] => if -(2 ^ 62) ≤ j ∧ j < 2 ^ 62 then .ok (rng 0 j.toNat 1) else .no
  | _ => .no
noncomputable def iRng2 (a : Fv) (ρ : Rho) : Res (List D) := (a ρ).bind fun ds => match ds with
  | [.int i, .int j] => if -(2 ^ 62) ≤ i ∧ i < 2 ^ 62 ∧ -(2 ^ 62) ≤ j ∧ j < 2 ^ 62 then .ok (rng i (j - i).toNat 1) else .no
  | _ => .no
noncomputable def iRng3 (a : Fv) (ρ : Rho) : Res (List D) := (a ρ).bind fun ds => match ds with
  | [.int i, .int j, .int c] => if 0 ≤ i ∧ i < 2 ^ 40 ∧ 0 ≤ j ∧ j < 2 ^ 40 ∧ 0 < c ∧ c < 2 ^ 20 then .ok (rng i ((j - i + c - 1) / c).toNat c) else .no
  | _ => .no
/-- while: n turns at most -/
noncomputable def wh (t : Tv) (b : Sv) : Nat → Rho → Res Fl
  | 0, _ => .no
  | n + 1, ρ => (t ρ).bind fun c => if c = true then (b ρ).bind fun f => match f with
      | .nx ρ2 => wh t b n ρ2
      | .ctn ρ2 => wh t b n ρ2
      | .brk ρ2 => .ok (.nx ρ2)
      | .ret r => .ok (.ret r)
    else .ok (.nx ρ)
noncomputable def fRep (f : Fv) (g : Ev) (ρ : Rho) : Res (List D) := (f ρ).bind fun ds => (g ρ).bind fun d => match d with
  | .int k => if 0 ≤ k ∧ k < 2 ^ 62 ∧ ds.length * k.toNat ≤ 16777216 then .ok (List.replicate k.toNat ds).flatten else .no
  | _ => .no
/-! ### comprehensions: one name more in each turn -/
noncomputable def tTrue (_ρ : Rho) : Res Bool := .ok true
noncomputable def compD (t : Tv) (f : Ev) (ρ : Rho) : List D → Res (List D)
  | [] => .ok []
  | d :: ds => (noErr (t (ρ ++ [.val d]))).bind fun c => if c = true then (noErr (f (ρ ++ [.val d]))).bind fun e => (compD t f ρ ds).bind fun es => .ok (e :: es) else compD t f ρ ds
noncomputable def fComp (it : Fv) (t : Tv) (f : Ev) (ρ : Rho) : Res (List D) := (it ρ).bind fun ds => if ds.length ≤ 16777215 then compD t f ρ ds else .no
/-! ### defs -/
/-- a def of n names: its body at its arguments -/
noncomputable def start (n : Nat) (ds : List D) : Rho := ds.map Sl.val ++ List.replicate (n - ds.length) .un
noncomputable def fin : Fl → Res Rt
  | .nx _ => .ok (.v .non)
  | .ret r => .ok r
  | .brk _ => .no
  | .ctn _ => .no
noncomputable def fn (p n : Nat) (b : Sv) (ds : List D) : Res Rt := if ds.length = p then (b (start n ds)).bind fin else .no
/-! ### slices with a step -/
noncomputable def stepD (ds : List D) (lo hi : Option Int) (c : Int) : List D := (sliceRange (sliceBounds lo hi (some c) ds.length).1 (sliceBounds lo hi (some c) ds.length).2.1 (sliceBounds lo hi (some c) ds.length).2.2).filterMap (ds[·]?)
noncomputable def fSl3 (a : Ev) (lo hi : Ov) (st : Ev) (ρ : Rho) : Res (List D) := (a ρ).bind fun x => (lo ρ).bind fun l => (hi ρ).bind fun h => (st ρ).bind fun c => match x, c with
  | .lst ds, .int c => if c = 0 then .no else .ok (stepD ds l h c)
  | _, _ => .no
/-! ### reversed(tuple), walked -/
noncomputable def iRev (e : Ev) (ρ : Rho) : Res (List D) := (e ρ).bind fun d => match d with
  | .tup ds => .ok ds.reverse
  | _ => .no
/-! ### zip, enumerate; a comprehension with two names -/
noncomputable def seqO : D → Option (List D)
  | .lst ds => some ds
  | .tup ds => some ds
  | _ => none
noncomputable def pairD : List D → List D → List D
  | a :: r, b :: q => .tup [a, b] :: pairD r q
  | _, _ => []
noncomputable def iZip (a : Fv) (ρ : Rho) : Res (List D) := (a ρ).bind fun ds => match ds with
  | [x, y] => match seqO x, seqO y with
    | some xs, some ys => .ok (pairD xs ys)
    | _, _ => .no
  | _ => .no
noncomputable def enumD : Nat → List D → List D
  | _, [] => []
  | n, d :: r => .tup [.int n, d] :: enumD (n + 1) r
noncomputable def iEnum (e : Ev) (ρ : Rho) : Res (List D) := (e ρ).bind fun d => match d with
  | .lst ds => .ok (enumD 0 ds)
  | .tup ds => .ok (enumD 0 ds)
  | _ => .no
noncomputable def comp2D (f : Ev) (ρ : Rho) : List D → Res (List D)
  | [] => .ok []
  | .tup [a, b] :: ds => (noErr (f (ρ ++ [.val a, .val b]))).bind fun e => (comp2D f ρ ds).bind fun es => .ok (e :: es)
  | _ :: _ => .no
noncomputable def fComp2 (it : Fv) (f : Ev) (ρ : Rho) : Res (List D) := (it ρ).bind fun ds => if ds.length ≤ 16777215 then comp2D f ρ ds else .no
/-! ### a part of a list or a tuple; f"..", join -/
noncomputable def slQ (l h : Option Int) : D → Res D
  | .lst ds => .ok (.lst (sliceD ds l h))
  | .tup ds => .ok (.tup (sliceD ds l h))
  | _ => .no
noncomputable def eSlQ (a : Ev) (lo hi : Ov) (ρ : Rho) : Res D := (a ρ).bind fun x => (lo ρ).bind fun l => (hi ρ).bind fun h => slQ l h x
noncomputable def fmtD : D → Option Str
  | .str x => some x
  | .int i => if i.natAbs.log2 < 1920 then some (toString i) else none
  | _ => none
noncomputable def catD : Str → List D → Option Str
  | a, [] => some a
  | a, d :: r => match fmtD d with
    | some x => if x.length ≤ sizeLine ∧ (a ++ x).length ≤ sizeLine then catD (a ++ x) r else none
    | none => none
noncomputable def fstD (ds : List D) : Res D := match catD Str.empty ds with
  | some x => .ok (.str x)
  | none => .no
noncomputable def eFst (fs : Fv) (ρ : Rho) : Res D := (fs ρ).bind fstD
noncomputable def strsD : List D → Option (List Str)
  | [] => some []
  | .str x :: r => (strsD r).map (x :: ·)
  | _ :: _ => none
noncomputable def joinD (sep : Str) : D → Res D
  | .lst ds => match strsD ds with
    | some l => if l.foldl (fun n x => n + x.length + sep.length) 0 ≤ sizeLine then .ok (.str (Builtin.Str.glued sep l)) else .no
    | none => .no
  | _ => .no
noncomputable def eJoin (sep : Str) (e : Ev) (ρ : Rho) : Res D := (e ρ).bind (joinD sep)
/-! ### sum -/
noncomputable def intsD : List D → Option (List Int)
  | [] => some []
  | .int i :: ds => match intsD ds with
    | some ns => some (i :: ns)
    | none => none
  | _ :: _ => none
noncomputable def bSum : List D → Res D
  | [.lst ds] => (match intsD ds with
    | some ns => .ok (.int ns.sum)
    | none => .no)
  | [.tup ds] => (match intsD ds with
    | some ns => .ok (.int ns.sum)
    | none => .no)
  | _ => .no
/-! ### a, b = list -/
noncomputable def gLst (gs : List D → Rho → Res Rho) (d : D) (ρ : Rho) : Res Rho := match d with
  | .lst ds => gs ds ρ
  | _ => .no
/-! ### texts -/
noncomputable def oAddS : Op2
  | .str x, .str y => if x.length + y.length ≤ sizeLine then .ok (.str (x ++ y)) else .no
  | _, _ => .no
noncomputable def repS (x : Str) (n : Int) : Str := if n < 1 then Str.empty else if (n == 1 || x.length == 0) = true then x else ⟨(List.replicate n.toNat x.cps).foldl (· ++ ·) #[]⟩
noncomputable def oMulS : Op2
  | .str x, .int n => if -(2 ^ 63) ≤ n ∧ n < 2 ^ 63 ∧ x.length * n.toNat ≤ sizeLine then .ok (.str (repS x n)) else .no
  | _, _ => .no
noncomputable def chO : Option Nat → Res D
  | some c => .ok (.str ⟨#[c]⟩)
  | none => .no
noncomputable def oIxS : Op2
  | .str z, .int i => if 0 ≤ i ∧ i < 2 ^ 63 then chO z.cps[i.toNat]? else .no
  | _, _ => .no
noncomputable def inS (i j : Str) : Bool := !(Builtin.Str.occurrences j i 0 j.length 1).isEmpty
noncomputable def oInS : Op2
  | .str i, .str j => .ok (.bl (inS i j))
  | _, _ => .no
noncomputable def oNotInS : Op2
  | .str i, .str j => .ok (.bl (!inS i j))
  | _, _ => .no
noncomputable def bStr : List D → Res D
  | [.int i] => if i.natAbs.log2 < 1920 then .ok (.str (toString i)) else .no
  | _ => .no
noncomputable def bLenS : List D → Res D
  | [.str x] => if x.length ≤ sizeLine then .ok (.int x.length) else .no
  | _ => .no
noncomputable def boolsD : List D → Option (List Bool)
  | [] => some []
  | .bl b :: r => (boolsD r).map (b :: ·)
  | _ => none
noncomputable def bAll : List D → Res D
  | [.lst ds] => (match boolsD ds with | some bs => .ok (.bl (bs.all id)) | none => .no)
  | _ => .no
noncomputable def chnF (o : Op2) (h : Ev) (ρ : Rho) (y : D) : D → Res D
  | .bl true => (h ρ).bind fun w => o y w
  | .bl false => .ok (.bl false)
  | _ => .no
/-! ### xs.count(b), xs.index(b) of bools -/
noncomputable def cntD (b : Bool) : D → Res D
  | .lst ds => (match boolsD ds with | some bs => .ok (.int (bs.countP (· == b) : Nat)) | none => .no)
  | _ => .no
noncomputable def idxD (b : Bool) : D → Res D
  | .lst ds => (match boolsD ds with
    | some bs => (match bs.findIdx? (· == b) with | some j => .ok (.int (j : Nat)) | none => .no)
    | none => .no)
  | _ => .no
noncomputable def eCnt (b : Bool) (e : Ev) (ρ : Rho) : Res D := (e ρ).bind (cntD b)
noncomputable def eIdx (b : Bool) (e : Ev) (ρ : Rho) : Res D := (e ρ).bind (idxD b)
/-- two new lists in a list, lent to a call, looked at, and written behind it -/
noncomputable def sLent (i fo : Nat) (a b : Fv) (call : Ev) (cmp : Tv) (rest : Sv) (ρ : Rho) : Res Fl :=
  if i < ρ.length ∧ fo < ρ.length ∧ i ≠ fo then
    (noErr (a ρ)).bind fun ds => (noErr (b ρ)).bind fun es => if ds.length ≤ 1000 ∧ es.length ≤ 1000 then
      (noErr (call (ρ.set i (.val (.lst [.lst ds, .lst es]))))).bind fun d => if noL d = true then
        (noErr (cmp ((ρ.set i (.val (.lst [.lst ds, .lst es]))).set fo (.val d)))).bind fun c => if c = true then .no else rest ((ρ.set i .un).set fo (.val d))
      else .no
    else .no
  else .no
noncomputable def eChain (o o' : Op2) (f g h : Ev) (ρ : Rho) : Res D := (f ρ).bind fun x => (g ρ).bind fun y => (o x y).bind (chnF o' h ρ y)
noncomputable def slS (l u : Option Int) : D → Res D
  | .str x => if x.length ≤ sizeLine then .ok (.str (Txt.slice x l u)) else .no
  | _ => .no
noncomputable def eSlS (a : Ev) (lo hi : Ov) (ρ : Rho) : Res D := (a ρ).bind fun x => (lo ρ).bind fun l => (hi ρ).bind fun h => slS l h x
noncomputable def chrD : D → Res (List D)
  | .str x => .ok (x.cps.toList.map fun c => .str ⟨#[c]⟩)
  | _ => .no
noncomputable def iStr (f : Ev) (ρ : Rho) : Res (List D) := (f ρ).bind chrD
/-! ### tables of texts, the greatest of a list -/
noncomputable def oTabIn (T : List (Str × Str)) : D → Res D
  | .str x => .ok (.bl (T.lookup x).isSome)
  | _ => .no
noncomputable def oTabNot (T : List (Str × Str)) : D → Res D
  | .str x => .ok (.bl (!(T.lookup x).isSome))
  | _ => .no
noncomputable def tabO : Option Str → Res D
  | some y => .ok (.str y)
  | none => .no
noncomputable def oTabAt (T : List (Str × Str)) : D → Res D
  | .str x => tabO (T.lookup x)
  | _ => .no
/-- a table of texts in a local name: made, read -/
noncomputable def sTab (i : Nat) (T : List (Str × Str)) (ρ : Rho) : Res Fl := .ok (.nx (ρ.set i (.tab T)))
noncomputable def eTabAt (i : Nat) (e : Ev) (ρ : Rho) : Res D := match ρ[i]? with
  | some (.tab T) => (e ρ).bind (oTabAt T)
  | _ => .no
noncomputable def maxI : Int → List Int → Int
  | a, [] => a
  | a, b :: r => maxI (if b > a then b else a) r
noncomputable def bMaxL : List D → Res D
  | [.lst ds] => (match intsD ds with | some (a :: r) => .ok (.int (maxI a r)) | _ => .no)
  | _ => .no
/-- max(list, default=d) -/
noncomputable def bMaxD : List D → Res D
  | [.lst ds, .int d] => (match intsD ds with | some (a :: r) => .ok (.int (maxI a r)) | some [] => .ok (.int d) | none => .no)
  | _ => .no
end L3

namespace L3
open PySem
/-- three names out of a call that reads an own list; by the second, nothing; else the list anew, cut, and one more in it -/
noncomputable def sPile (i j1 j2 j3 : Nat) (call : Ev) (t1 t2 t3 : Tv) (sl : Fv) (v : Ev) (ρ : Rho) : Res Fl :=
  (noErr (call (ρ.map Sl.frz))).bind fun d => match d with
  | .tup [d1, d2, d3] =>
    (noErr (t1 ((((ρ.map Sl.frz).set j1 (.val d1)).set j2 (.val d2)).set j3 (.val d3)))).bind fun c =>
      if c = true then (noErr (t2 ((((ρ.map Sl.frz).set j1 (.val d1)).set j2 (.val d2)).set j3 (.val d3)))).bind fun c2 => if c2 = true then .no else .ok (.nx (((ρ.set j1 .un).set j2 .un).set j3 .un))
      else (noErr (t3 ((((ρ.map Sl.frz).set j1 (.val d1)).set j2 (.val d2)).set j3 (.val d3)))).bind fun c3 => if c3 = true then .no else
        (noErr (sl ((((ρ.map Sl.frz).set j1 (.val d1)).set j2 (.val d2)).set j3 (.val d3)))).bind fun ds => if noLs ds = true ∧ ds.length ≤ 1000 ∧ i < ρ.length then
          (noErr (v (((((ρ.map Sl.frz).set j1 (.val d1)).set j2 (.val d2)).set j3 (.val d3)).set i .un))).bind fun e => if noL e = true then .ok (.nx ((((ρ.set j1 .un).set j2 .un).set j3 .un).set i (.own (ds ++ [e])))) else .no
        else .no
  | _ => .no
end L3

namespace Fq
end Fq

namespace Fr
open L3 PySem Fq
/-! ### sizes -/
theorem nb_le1 {i : Int} {m : Nat} (h : i.natAbs < 2 ^ m) : nb i ≤ m + 1 := nb_le (Nat.lt_of_lt_of_le h (Nat.pow_le_pow_right (by decide) (by omega))) (by omega)
theorem okMul_r {i j : Int} (h1 : -(2 ^ 64) < j) (h2 : j < 2 ^ 64) : okMul i j = true := by
  unfold okMul
  rw [Bool.or_eq_true, Bool.or_eq_true]
  exact .inl (.inr (by rw [decide_eq_true h1, decide_eq_true h2]; rfl))
theorem okMul_l {i j : Int} (h1 : -(2 ^ 64) < i) (h2 : i < 2 ^ 64) : okMul i j = true := by
  unfold okMul
  rw [Bool.or_eq_true, Bool.or_eq_true]
  exact .inl (.inl (by rw [decide_eq_true h1, decide_eq_true h2]; rfl))
theorem okDiv_of {j : Int} {m : Nat} (h0 : j ≠ 0) (hj : j.natAbs < 2 ^ m) (h : m ≤ 8999) : okDiv j = true := by
  unfold okDiv
  have h1 := nb_le1 hj
  rw [decide_eq_true h0, decide_eq_true (show nb j ≤ 9000 by omega)]
  rfl
theorem okDiv_lit {j : Int} (h0 : 0 < j) (h : j < 1000000000000000000) : okDiv j = true := okDiv_of (m := 64) (by omega) (by omega) (by decide)
theorem okMul_litr {i j : Int} (h1 : -1000000000000000000 < j) (h2 : j < 1000000000000000000) : okMul i j = true := okMul_r (by omega) (by omega)
theorem okMul_litl {i j : Int} (h1 : -1000000000000000000 < i) (h2 : i < 1000000000000000000) : okMul i j = true := okMul_l (by omega) (by omega)
theorem p10 (n : Nat) : (0 : Int) < 10 ^ n := Int.pow_pos (by decide)
theorem p10ne (n : Nat) : ((10 : Int) ^ n = 0) = False := eq_false (by have := p10 n; omega)
theorem p10pos2 (n : Nat) : (0 : Int) < 2 * 10 ^ n := by have := p10 n; omega
theorem p10ne2 (n : Nat) : ((2 : Int) * 10 ^ n = 0) = False := eq_false (by have := p10 n; omega)
theorem okp9 : okPow 10 9 = true := by decide
theorem okp12 : okPow 10 12 = true := by decide
theorem okp20 : okPow 10 20 = true := by decide
theorem okp30 : okPow 10 30 = true := by decide
theorem okp59 : okPow 10 59 = true := by decide
theorem okp60 : okPow 10 60 = true := by decide
theorem okp40 : okPow 10 40 = true := by decide
theorem okp13 : okPow 10 13 = true := by decide
/-! ### fractions as values -/
noncomputable def dq (q : Rat) : D := .tup [.int q.num, .int (q.den : Int)]
noncomputable def dp (p : Rat × Rat) : D := .tup [dq p.1, dq p.2]
theorem eq_dq (p q : Rat) : eqD (dq p) (dq q) = decide (p = q) := by
  show ((p.num == q.num) && (((p.den : Int) == (q.den : Int)) && true)) = decide (p = q)
  by_cases h : p = q
  · subst h; simp
  · rw [decide_eq_false h]
    by_cases h1 : p.num = q.num
    · have h2 : p.den ≠ q.den := fun e => h (Rat.ext h1 e)
      have : ((p.den : Int) == (q.den : Int)) = false := by simp; omega
      rw [this]; simp
    · simp [h1]
theorem dep_dq (q : Rat) : dep (dq q) = 1 := rfl
theorem ix_dq0 (q : Rat) : oIx (dq q) (.int 0) = .ok (.int q.num) := rfl
theorem ix_dq1 (q : Rat) : oIx (dq q) (.int 1) = .ok (.int (q.den : Int)) := rfl
theorem ty_dq (q : Rat) : tyN (dq q) = "tuple" := rfl
theorem len_dq (q : Rat) : bLen [dq q] = .ok (.int 2) := rfl
theorem oEq_dq (p q : Rat) : oEq (dq p) (dq q) = .ok (.bl (decide (p = q))) := by
  rw [← eq_dq]; rfl
theorem oNe_dq (p q : Rat) : oNe (dq p) (dq q) = .ok (.bl (!decide (p = q))) := by
  rw [← eq_dq]; rfl
theorem noL_dq (q : Rat) : noL (dq q) = true := rfl
theorem eq_dp (p q : Rat × Rat) : eqD (dp p) (dp q) = decide (p = q) := by
  show (eqD (dq p.1) (dq q.1) && (eqD (dq p.2) (dq q.2) && true)) = decide (p = q)
  rw [eq_dq, eq_dq]
  obtain ⟨a, b⟩ := p
  obtain ⟨c, d⟩ := q
  simp
theorem dp_mk (a b : Rat) : (.tup [dq a, dq b] : D) = dp (a, b) := rfl
theorem ix_dp0 (p : Rat × Rat) : oIx (dp p) (.int 0) = .ok (dq p.1) := rfl
theorem ix_dp1 (p : Rat × Rat) : oIx (dp p) (.int 1) = .ok (dq p.2) := rfl
theorem ty_dp (p : Rat × Rat) : tyN (dp p) = "tuple" := rfl
theorem len_dp (p : Rat × Rat) : bLen [dp p] = .ok (.int 2) := rfl
theorem dep_dp (p : Rat × Rat) : dep (dp p) = 2 := rfl
theorem noL_dp (p : Rat × Rat) : noL (dp p) = true := rfl
theorem oEq_dp (p q : Rat × Rat) : oEq (dp p) (dp q) = .ok (.bl (decide (p = q))) := by
  rw [← eq_dp]; rfl
theorem oNe_dp (p q : Rat × Rat) : oNe (dp p) (dp q) = .ok (.bl (!decide (p = q))) := by
  rw [← eq_dp]; rfl
theorem fdiv_pos (a : Int) {b : Int} (h : 0 < b) : a.fdiv b = a / b := Int.fdiv_eq_ediv_of_nonneg a (by omega)
theorem fmod_pos (a : Int) {b : Int} (h : 0 < b) : a.fmod b = a % b := Int.fmod_eq_emod_of_nonneg a (by omega)
theorem noLs_dps : ∀ l : List (Rat × Rat), noLs (l.map dp) = true
  | [] => rfl
  | q :: l => by rw [List.map_cons, noLs, noL_dp, noLs_dps l]; rfl
theorem take_succ' {α : Type} {l : List α} {i : Nat} {a : α} (h : l[i]? = some a) : l.take (i + 1) = l.take i ++ [a] := by rw [List.take_succ, h]; rfl
end Fr

namespace L3
open PySem
/-! ### how a mirror is walked through: what comes behind stays shut until its turn -/
noncomputable def seqF (b : Sv) : Fl → Res Fl
  | .nx ρ => b ρ
  | .ret r => .ok (.ret r)
  | .brk ρ => .ok (.brk ρ)
  | .ctn ρ => .ok (.ctn ρ)
theorem sSeq_at {a b : Sv} {ρ : Rho} : sSeq a b ρ = (a ρ).bind (seqF b) := by
  unfold sSeq; congr; funext f; cases f <;> rfl
noncomputable def ifF (a b : Sv) (ρ : Rho) : Bool → Res Fl
  | true => a ρ
  | false => b ρ
theorem sIf_at {t : Tv} {a b : Sv} {ρ : Rho} : sIf t a b ρ = (t ρ).bind (ifF a b ρ) := by
  unfold sIf; congr; funext c; cases c <;> rfl
noncomputable def eifF (a b : Ev) (ρ : Rho) : Bool → Res D
  | true => a ρ
  | false => b ρ
theorem eIf_at {t : Tv} {a b : Ev} {ρ : Rho} : eIf t a b ρ = (t ρ).bind (eifF a b ρ) := by
  unfold eIf; congr; funext c; cases c <;> rfl
noncomputable def andF (b : Ev) (ρ : Rho) : D → Res D
  | .bl true => b ρ
  | .bl false => .ok (.bl false)
  | _ => .no
theorem eAnd_at {a b : Ev} {ρ : Rho} : eAnd a b ρ = (a ρ).bind (andF b ρ) := by
  unfold eAnd; congr; funext c; cases c <;> try rfl
  rename_i c; cases c <;> rfl
noncomputable def orF (b : Ev) (ρ : Rho) : D → Res D
  | .bl true => .ok (.bl true)
  | .bl false => b ρ
  | _ => .no
theorem eOr_at {a b : Ev} {ρ : Rho} : eOr a b ρ = (a ρ).bind (orF b ρ) := by
  unfold eOr; congr; funext c; cases c <;> try rfl
  rename_i c; cases c <;> rfl
noncomputable def opF (o : Op2) (b : Ev) (ρ : Rho) (x : D) : Res D := (b ρ).bind (o x)
theorem eOp_at {o : Op2} {a b : Ev} {ρ : Rho} : eOp o a b ρ = (a ρ).bind (opF o b ρ) := rfl
noncomputable def consG (d : D) (ds : List D) : Res (List D) := .ok (d :: ds)
noncomputable def consF (r : Fv) (ρ : Rho) (d : D) : Res (List D) := (r ρ).bind (consG d)
theorem aCons_at {e : Ev} {r : Fv} {ρ : Rho} : aCons e r ρ = (e ρ).bind (consF r ρ) := rfl
noncomputable def tupF (ds : List D) : Res D := if ds.length ≤ 16777216 then .ok (.tup ds) else .no
theorem eTup_at {a : Fv} {ρ : Rho} : eTup a ρ = (a ρ).bind tupF := rfl
noncomputable def rtF (r : Rt) : Res D := .ok r.d
noncomputable def callF (m : Mir) (ds : List D) : Res D := (m ds).bind rtF
theorem eCall_at {m : Mir} {a : Fv} {ρ : Rho} : eCall m a ρ = (a ρ).bind (callF m) := rfl
noncomputable def isTF (T : String) (d : D) : Res D := .ok (.bl (isT T d))
theorem eIsT_at {T : String} {a : Ev} {ρ : Rho} : eIsT T a ρ = (a ρ).bind (isTF T) := rfl
noncomputable def isNF (d : D) : Res D := .ok (.bl (isNon d))
theorem eIsN_at {a : Ev} {ρ : Rho} : eIsN a ρ = (a ρ).bind isNF := rfl
noncomputable def notNF (d : D) : Res D := .ok (.bl (!isNon d))
theorem eNotN_at {a : Ev} {ρ : Rho} : eNotN a ρ = (a ρ).bind notNF := rfl
noncomputable def frzF (d : D) : Res D := if noL d = true then .ok d else .no
theorem eFrz_at {e : Ev} {ρ : Rho} : eFrz e ρ = (e (ρ.map Sl.frz)).bind frzF := rfl
noncomputable def fLstF (ds : List D) : Res (List D) := if ds.length ≤ 16777216 then .ok ds else .no
theorem fLst_at {a : Fv} {ρ : Rho} : fLst a ρ = (a ρ).bind fLstF := rfl
noncomputable def rtFF : Rt → Res (List D)
  | .f ds => .ok ds
  | .v _ => .no
noncomputable def fcallF (m : Mir) (ds : List D) : Res (List D) := (m ds).bind rtFF
theorem fCall_at {m : Mir} {a : Fv} {ρ : Rho} : fCall m a ρ = (a ρ).bind (fcallF m) := by
  unfold fCall fcallF; congr
noncomputable def fListF : List D → Res (List D)
  | [.lst ds] => .ok ds
  | [.tup ds] => .ok ds
  | _ => .no
theorem fListF_l {ds : List D} : fListF [.lst ds] = .ok ds := rfl
theorem fListF_t {ds : List D} : fListF [.tup ds] = .ok ds := rfl
theorem fList_at {a : Fv} {ρ : Rho} : fList a ρ = (a ρ).bind fListF := rfl
noncomputable def catG (x y : D) : Res (List D) := match x, y with
  | .lst ds, .lst es => if ds.length + es.length ≤ 16777216 then .ok (ds ++ es) else .no
  | _, _ => .no
noncomputable def catF (b : Ev) (ρ : Rho) (x : D) : Res (List D) := (b ρ).bind (catG x)
theorem fCat_at {a b : Ev} {ρ : Rho} : fCat a b ρ = (a ρ).bind (catF b ρ) := rfl
noncomputable def efF (ds : List D) : Res D := .ok (.lst ds)
theorem eF_at {f : Fv} {ρ : Rho} : eF f ρ = (f ρ).bind efF := rfl
noncomputable def fFrzF (ds : List D) : Res (List D) := if noLs ds = true then .ok ds else .no
theorem fFrz_at {f : Fv} {ρ : Rho} : fFrz f ρ = (f (ρ.map Sl.frz)).bind fFrzF := rfl
noncomputable def oSF : D → Res (Option Int)
  | .int i => .ok (some i)
  | _ => .no
theorem oS_at {e : Ev} {ρ : Rho} : oS e ρ = (e ρ).bind oSF := by
  unfold oS; congr
noncomputable def fSlH (x : D) (l h : Option Int) : Res (List D) := match x with
  | .lst ds => .ok (sliceD ds l h)
  | _ => .no
noncomputable def fSlG (hi : Ov) (ρ : Rho) (x : D) (l : Option Int) : Res (List D) := (hi ρ).bind (fSlH x l)
noncomputable def fSlF (lo hi : Ov) (ρ : Rho) (x : D) : Res (List D) := (lo ρ).bind (fSlG hi ρ x)
theorem fSl_at {a : Ev} {lo hi : Ov} {ρ : Rho} : fSl a lo hi ρ = (a ρ).bind (fSlF lo hi ρ) := rfl
noncomputable def eSlH (x : D) (l h : Option Int) : Res D := match x with
  | .tup ds => if (sliceD ds l h).length < ds.length then .ok (.tup (sliceD ds l h)) else .no
  | _ => .no
noncomputable def eSlG (hi : Ov) (ρ : Rho) (x : D) (l : Option Int) : Res D := (hi ρ).bind (eSlH x l)
noncomputable def eSlF (lo hi : Ov) (ρ : Rho) (x : D) : Res D := (lo ρ).bind (eSlG hi ρ x)
theorem eSlT_at {a : Ev} {lo hi : Ov} {ρ : Rho} : eSlT a lo hi ρ = (a ρ).bind (eSlF lo hi ρ) := rfl
noncomputable def blF : D → Res Bool
  | .bl b => .ok b
  | _ => .no
theorem tVal_at {e : Ev} {ρ : Rho} : tVal e ρ = (e ρ).bind blF := by
  unfold tVal; congr
noncomputable def notF (b : Bool) : Res Bool := .ok (!b)
theorem tNotB_at {t : Tv} {ρ : Rho} : tNotB t ρ = (t ρ).bind notF := rfl
noncomputable def tandF (u : Tv) (ρ : Rho) : Bool → Res Bool
  | true => u ρ
  | false => .ok false
theorem tAndB_at {t u : Tv} {ρ : Rho} : tAndB t u ρ = (t ρ).bind (tandF u ρ) := by
  unfold tAndB; congr; funext c; cases c <;> rfl
noncomputable def torF (u : Tv) (ρ : Rho) : Bool → Res Bool
  | true => .ok true
  | false => u ρ
theorem tOrB_at {t u : Tv} {ρ : Rho} : tOrB t u ρ = (t ρ).bind (torF u ρ) := by
  unfold tOrB; congr; funext c; cases c <;> rfl
noncomputable def setF (i : Nat) (ρ : Rho) (d : D) : Res Fl := .ok (.nx (ρ.set i (.val d)))
theorem sSet_at {i : Nat} {e : Ev} {ρ : Rho} : sSet i e ρ = (e ρ).bind (setF i ρ) := rfl
noncomputable def ownF (i : Nat) (ρ : Rho) (ds : List D) : Res Fl := .ok (.nx (ρ.set i (.own ds)))
theorem sOwn_at {i : Nat} {f : Fv} {ρ : Rho} : sOwn i f ρ = (f ρ).bind (ownF i ρ) := rfl
noncomputable def dropF (ρ : Rho) (_d : D) : Res Fl := .ok (.nx ρ)
theorem sDrop_at {e : Ev} {ρ : Rho} : sDrop e ρ = (e ρ).bind (dropF ρ) := rfl
noncomputable def retF (d : D) : Res Fl := .ok (.ret (.v d))
theorem sRet_at {e : Ev} {ρ : Rho} : sRet e ρ = (e (ρ.map Sl.frz)).bind retF := rfl
noncomputable def retFF (ds : List D) : Res Fl := .ok (.ret (.f ds))
theorem sRetF_at {f : Fv} {ρ : Rho} : sRetF f ρ = (f (ρ.map Sl.frz)).bind retFF := rfl
noncomputable def raiseF (c : Str) (ds : List D) : Res Fl := if ds.length ≤ 16777216 then .err c else .no
theorem sRaise_at {c : Str} {a : Fv} {ρ : Rho} : sRaise c a ρ = (a ρ).bind (raiseF c) := rfl
noncomputable def appF (i : Nat) (ρ : Rho) (ds : List D) (d : D) : Res Fl := if ds.length < 16777216 then .ok (.nx (ρ.set i (.own (ds ++ [d])))) else .no
noncomputable def appS (i : Nat) (e : Ev) (ρ : Rho) : Option Sl → Res Fl
  | some (.own ds) => (e ρ).bind (appF i ρ ds)
  | _ => .no
theorem sApp_at {i : Nat} {e : Ev} {ρ : Rho} : sApp i e ρ = appS i e ρ ρ[i]? := by
  unfold sApp appS; rfl
noncomputable def extF (i : Nat) (ρ : Rho) (ds : List D) (es : List D) : Res Fl := if ds.length + es.length ≤ 16777216 then .ok (.nx (ρ.set i (.own (ds ++ es)))) else .no
noncomputable def extS (i : Nat) (e : Fv) (ρ : Rho) : Option Sl → Res Fl
  | some (.own ds) => (e ρ).bind (extF i ρ ds)
  | _ => .no
theorem sExt_at {i : Nat} {e : Fv} {ρ : Rho} : sExt i e ρ = extS i e ρ ρ[i]? := by
  unfold sExt extS; rfl
noncomputable def augF (i : Nat) (ρ : Rho) (o : Op2) (x y : D) : Res Fl := (o x y).bind (setF i ρ)
noncomputable def augS (i : Nat) (o : Op2) (e : Ev) (ρ : Rho) : Option Sl → Res Fl
  | some (.val x) => (e ρ).bind (augF i ρ o x)
  | _ => .no
theorem sAug_at {i : Nat} {o : Op2} {e : Ev} {ρ : Rho} : sAug i o e ρ = augS i o e ρ ρ[i]? := by
  unfold sAug augS; rfl
noncomputable def dropG (ρ : Rho) (_r : Rt) : Res Fl := .ok (.nx ρ)
noncomputable def xdropF (m : Mir) (ρ : Rho) (ds : List D) : Res Fl := (m ds).bind (dropG ρ)
theorem xDrop_at {m : Mir} {a : Fv} {ρ : Rho} : xDrop m a ρ = (noErr (a ρ)).bind (xdropF m ρ) := rfl
noncomputable def setG (i : Nat) (ρ : Rho) (r : Rt) : Res Fl := .ok (.nx (ρ.set i (.val r.d)))
noncomputable def xsetF (i : Nat) (m : Mir) (ρ : Rho) (ds : List D) : Res Fl := (m ds).bind (setG i ρ)
theorem xSet_at {i : Nat} {m : Mir} {a : Fv} {ρ : Rho} : xSet i m a ρ = (noErr (a ρ)).bind (xsetF i m ρ) := rfl
theorem xIf_at {t : Tv} {a b : Sv} {ρ : Rho} : xIf t a b ρ = (noErr (t ρ)).bind (ifF a b ρ) := by
  unfold xIf; congr; funext c; cases c <;> rfl
noncomputable def tryH (i : Nat) : Res Fl → Res Fl
  | .ok (.nx ρ') => .ok (.nx (ρ'.set i .un))
  | _ => .no
noncomputable def tryE (i : Nat) (h : Sv) (ρ : Rho) (c : Str) : Bool → Res Fl
  | true => tryH i (h (ρ.set i (.exc c)))
  | false => .no
noncomputable def tryF (tb : List Str) (i : Nat) (h : Sv) (ρ : Rho) : Res Fl → Res Fl
  | .err c => tryE i h ρ c (tb.contains c)
  | .ok f => .ok f
  | .no => .no
theorem sTry_at {tb : List Str} {i : Nat} {b h : Sv} {ρ : Rho} : sTry tb i b h ρ = tryF tb i h ρ (b ρ) := by
  unfold sTry
  cases b ρ with
  | ok f => rfl
  | no => rfl
  | err c =>
    show (if tb.contains c = true then _ else _) = tryE i h ρ c (tb.contains c)
    cases tb.contains c with
    | false => rfl
    | true =>
      simp only [if_true, tryE]
      cases h (ρ.set i (.exc c)) with
      | ok f => cases f <;> rfl
      | _ => rfl
noncomputable def isES (anc : List (Str × List Str)) (cs : List Str) : Option Sl → Res D
  | some (.exc c) => (match anc.lookup c with
    | some l => .ok (.bl (cs.any fun x => l.contains x))
    | none => .no)
  | _ => .no
theorem eIsE_at {anc : List (Str × List Str)} {i : Nat} {cs : List Str} {ρ : Rho} : eIsE anc i cs ρ = isES anc cs ρ[i]? := by
  unfold eIsE isES; rfl
noncomputable def varS : Option Sl → Res D
  | some (.val d) => .ok d
  | _ => .no
noncomputable def tabS (e : Ev) (ρ : Rho) : Option Sl → Res D
  | some (.tab T) => (e ρ).bind (oTabAt T)
  | _ => .no
theorem eTabAt_at {i : Nat} {e : Ev} {ρ : Rho} : eTabAt i e ρ = tabS e ρ ρ[i]? := by
  unfold eTabAt tabS
  split <;> simp_all
theorem eVar_at {i : Nat} {ρ : Rho} : eVar i ρ = varS ρ[i]? := by
  unfold eVar varS; rfl
noncomputable def retS : Option Sl → Res Fl
  | some (.own ds) => .ok (.ret (.f ds))
  | _ => .no
theorem sRetOwn_at {i : Nat} {ρ : Rho} : sRetOwn i ρ = retS ρ[i]? := by
  unfold sRetOwn retS; rfl
noncomputable def nxF (ρ : Rho) : Res Fl := .ok (.nx ρ)
noncomputable def unpF (g : Gv) (ρ : Rho) (d : D) : Res Fl := (g d ρ).bind nxF
theorem sUnp_at {g : Gv} {f : Ev} {ρ : Rho} : sUnp g f ρ = (f ρ).bind (unpF g ρ) := rfl
noncomputable def gtF (gs : List D → Rho → Res Rho) (ρ : Rho) : D → Res Rho
  | .tup ds => gs ds ρ
  | _ => .no
theorem gTup_at {gs : List D → Rho → Res Rho} {d : D} {ρ : Rho} : gTup gs d ρ = gtF gs ρ d := by
  unfold gTup gtF; rfl
theorem gCons_at {g : Gv} {r : List D → Rho → Res Rho} {d : D} {ds : List D} {ρ : Rho} : gCons g r (d :: ds) ρ = (g d ρ).bind (r ds) := rfl
theorem gNil_at {ρ : Rho} : gNil [] ρ = .ok ρ := rfl
noncomputable def forF (g : Gv) (b : Sv) (ρ : Rho) (ds : List D) : Res Fl := loop g b ds ρ
theorem sFor_at {it : Fv} {g : Gv} {b : Sv} {ρ : Rho} : sFor it g b ρ = (it ρ).bind (forF g b ρ) := rfl
noncomputable def seqD : D → Res (List D)
  | .lst ds => .ok ds
  | .tup ds => .ok ds
  | _ => .no
theorem seqD_l {ds : List D} : seqD (.lst ds) = .ok ds := rfl
theorem seqD_t {ds : List D} : seqD (.tup ds) = .ok ds := rfl
theorem iSeq_at {e : Ev} {ρ : Rho} : iSeq e ρ = (e ρ).bind seqD := by
  unfold iSeq; congr
noncomputable def lstD : D → Res (List D)
  | .lst ds => .ok ds
  | _ => .no
theorem iLst_at {e : Ev} {ρ : Rho} : iLst e ρ = (e ρ).bind lstD := by
  unfold iLst; congr
noncomputable def tplD : D → Res (List D)
  | .tup ds => .ok ds
  | _ => .no
theorem iTpl_at {e : Ev} {ρ : Rho} : iTpl e ρ = (e ρ).bind tplD := by
  unfold iTpl; congr
noncomputable def rng1F : List D → Res (List D)
  | [.int j] => if -(2 ^ 62) ≤ j ∧ j < 2 ^ 62 then .ok (rng 0 j.toNat 1) else .no
  | _ => .no
theorem iRng1_at {a : Fv} {ρ : Rho} : iRng1 a ρ = (a ρ).bind rng1F := rfl
noncomputable def rng2F : List D → Res (List D)
  | [.int i, .int j] => if -(2 ^ 62) ≤ i ∧ i < 2 ^ 62 ∧ -(2 ^ 62) ≤ j ∧ j < 2 ^ 62 then .ok (rng i (j - i).toNat 1) else .no
  | _ => .no
theorem iRng2_at {a : Fv} {ρ : Rho} : iRng2 a ρ = (a ρ).bind rng2F := rfl
noncomputable def rng3F : List D → Res (List D)
  | [.int i, .int j, .int c] => if 0 ≤ i ∧ i < 2 ^ 40 ∧ 0 ≤ j ∧ j < 2 ^ 40 ∧ 0 < c ∧ c < 2 ^ 20 then .ok (rng i ((j - i + c - 1) / c).toNat c) else .no
  | _ => .no
theorem iRng3_at {a : Fv} {ρ : Rho} : iRng3 a ρ = (a ρ).bind rng3F := rfl
theorem fn_at {p n : Nat} {b : Sv} {ds : List D} (h : ds.length = p) : fn p n b ds = (b (start n ds)).bind fin := by
  unfold fn; rw [if_pos h]
/-! the steps -/
theorem nr {α : Sort _} {a b : α} (h : a = b) : a = b := h
theorem okb {α β : Type} {a : α} {f : α → Res β} : (Res.ok a).bind f = f a := nr rfl
theorem erb {α β : Type} {c : Str} {f : α → Res β} : (Res.err c).bind f = .err c := nr rfl
theorem seqF_nx {b : Sv} {ρ : Rho} : seqF b (.nx ρ) = b ρ := nr rfl
theorem seqF_ret {b : Sv} {r : Rt} : seqF b (.ret r) = .ok (.ret r) := nr rfl
theorem seqF_brk {b : Sv} {ρ : Rho} : seqF b (.brk ρ) = .ok (.brk ρ) := nr rfl
theorem seqF_ctn {b : Sv} {ρ : Rho} : seqF b (.ctn ρ) = .ok (.ctn ρ) := nr rfl
theorem gtF_t {gs : List D → Rho → Res Rho} {ρ : Rho} {ds : List D} : gtF gs ρ (.tup ds) = gs ds ρ := nr rfl
theorem ifF_t {a b : Sv} {ρ : Rho} : ifF a b ρ true = a ρ := nr rfl
theorem ifF_f {a b : Sv} {ρ : Rho} : ifF a b ρ false = b ρ := nr rfl
theorem eifF_t {a b : Ev} {ρ : Rho} : eifF a b ρ true = a ρ := nr rfl
theorem eifF_f {a b : Ev} {ρ : Rho} : eifF a b ρ false = b ρ := nr rfl
theorem andF_t {b : Ev} {ρ : Rho} : andF b ρ (.bl true) = b ρ := nr rfl
theorem andF_f {b : Ev} {ρ : Rho} : andF b ρ (.bl false) = .ok (.bl false) := nr rfl
theorem orF_t {b : Ev} {ρ : Rho} : orF b ρ (.bl true) = .ok (.bl true) := nr rfl
theorem orF_f {b : Ev} {ρ : Rho} : orF b ρ (.bl false) = b ρ := nr rfl
theorem tandF_t {u : Tv} {ρ : Rho} : tandF u ρ true = u ρ := nr rfl
theorem tandF_f {u : Tv} {ρ : Rho} : tandF u ρ false = .ok false := nr rfl
theorem torF_t {u : Tv} {ρ : Rho} : torF u ρ true = .ok true := nr rfl
theorem torF_f {u : Tv} {ρ : Rho} : torF u ρ false = u ρ := nr rfl
theorem tryE_t {i : Nat} {h : Sv} {ρ : Rho} {c : Str} : tryE i h ρ c true = tryH i (h (ρ.set i (.exc c))) := rfl
theorem tryF_ok {tb : List Str} {i : Nat} {h : Sv} {ρ : Rho} {f : Fl} : tryF tb i h ρ (.ok f) = .ok f := rfl
theorem tryF_err {tb : List Str} {i : Nat} {h : Sv} {ρ : Rho} {c : Str} : tryF tb i h ρ (.err c) = tryE i h ρ c (tb.contains c) := rfl
theorem tryH_nx {i : Nat} {ρ : Rho} : tryH i (.ok (.nx ρ)) = .ok (.nx (ρ.set i .un)) := rfl
theorem oAdd_i {i j : Int} : oAdd (.int i) (.int j) = .ok (.int (i + j)) := rfl
theorem oAddI_i {i j : Int} : oAddI (.int i) (.int j) = .ok (.int (i + j)) := rfl
theorem oSub_i {i j : Int} : oSub (.int i) (.int j) = .ok (.int (i - j)) := rfl
theorem oMul_i {i j : Int} (h : okMul i j = true) : oMul (.int i) (.int j) = .ok (.int (i * j)) := if_pos h
theorem oDiv_i {i j : Int} (h : okDiv j = true) : oDiv (.int i) (.int j) = .ok (.int (i.fdiv j)) := if_pos h
theorem oMod_i {i j : Int} (h : j ≠ 0) : oMod (.int i) (.int j) = .ok (.int (i.fmod j)) := if_pos h
theorem oPow_i {i j : Int} (h : okPow i j = true) : oPow (.int i) (.int j) = .ok (.int (i ^ j.toNat)) := if_pos h
theorem oEq_i {i j : Int} : oEq (.int i) (.int j) = .ok (.bl (decide (i = j))) := rfl
theorem oNe_i {i j : Int} : oNe (.int i) (.int j) = .ok (.bl (!decide (i = j))) := rfl
theorem oLt_i {i j : Int} : oLt (.int i) (.int j) = .ok (.bl (decide (i < j))) := rfl
theorem oLe_i {i j : Int} : oLe (.int i) (.int j) = .ok (.bl (decide (i ≤ j))) := rfl
theorem oGt_i {i j : Int} : oGt (.int i) (.int j) = .ok (.bl (decide (j < i))) := rfl
theorem oGe_i {i j : Int} : oGe (.int i) (.int j) = .ok (.bl (decide (j ≤ i))) := rfl
theorem ofO_some {α : Type} {a : α} : ofO (some a) = .ok a := rfl
theorem oNeg_i {i : Int} : oNeg (.int i) = .ok (.int (-i)) := rfl
theorem oNot_b {b : Bool} : oNot (.bl b) = .ok (.bl (!b)) := rfl
theorem bAbs_i {i : Int} : bAbs [.int i] = .ok (.int (i.natAbs : Int)) := by
  show Res.ok (D.int (if i < 0 then -i else i)) = _
  congr 2; split <;> omega
theorem bMax_i {i j : Int} : bMax [.int i, .int j] = .ok (.int (max i j)) := by
  show Res.ok (D.int (if j > i then j else i)) = _
  congr 2; split <;> omega
theorem bMin_i {i j : Int} : bMin [.int i, .int j] = .ok (.int (min i j)) := by
  show Res.ok (D.int (if j < i then j else i)) = _
  congr 2; split <;> omega
theorem rng1F_i {j : Int} (h1 : -(2 ^ 62) ≤ j) (h2 : j < 2 ^ 62) : rng1F [.int j] = .ok (rng 0 j.toNat 1) := if_pos ⟨h1, h2⟩
/-- a loop that goes through: P at each turn -/
theorem loop_go {α : Type} {g : Gv} {b : Sv} {ds : List D} {ρ : Rho} {k : Fl → Res α} {Q : Res α → Prop} (P : Rho → Prop) (h0 : P ρ)
    (st : ∀ d ρ, d ∈ ds → P ρ → ∃ ρ2, (g d ρ).bind b = .ok (.nx ρ2) ∧ P ρ2) (fi : ∀ ρ', P ρ' → Q (k (.nx ρ'))) : Q ((loop g b ds ρ).bind k) := by
  suffices h : ∃ ρ', loop g b ds ρ = .ok (.nx ρ') ∧ P ρ' by
    obtain ⟨ρ', e, hp⟩ := h
    rw [e]
    exact fi ρ' hp
  clear fi
  induction ds generalizing ρ with
  | nil => exact ⟨ρ, rfl, h0⟩
  | cons d ds ih =>
    obtain ⟨ρ2, e, hp⟩ := st d ρ List.mem_cons_self h0
    obtain ⟨ρ', e', hp'⟩ := ih hp fun d' ρ' hd => st d' ρ' (List.mem_cons_of_mem _ hd)
    refine ⟨ρ', ?_, hp'⟩
    rw [loop]
    cases hg : g d ρ with
    | no => rw [hg] at e; cases e
    | err c => rw [hg] at e; cases e
    | ok ρ1 =>
      rw [hg] at e
      have e2 : b ρ1 = .ok (.nx ρ2) := e
      simp only [Res.bind, e2]
      exact e'
theorem ty_i {i : Int} : tyN (.int i) = "int" := rfl
theorem ty_b {b : Bool} : tyN (.bl b) = "bool" := rfl
theorem ty_t {ds : List D} : tyN (.tup ds) = "tuple" := rfl
theorem ty_l {ds : List D} : tyN (.lst ds) = "list" := rfl
theorem ty_s {x : Str} : tyN (.str x) = "str" := rfl
theorem ty_n : tyN .non = "NoneType" := rfl
theorem bLen_t {ds : List D} : bLen [.tup ds] = .ok (.int ds.length) := rfl
theorem bLen_l {ds : List D} : bLen [.lst ds] = .ok (.int ds.length) := rfl
theorem bTup_t {ds : List D} : bTup [.tup ds] = .ok (.tup ds) := rfl
theorem bTup_l {ds : List D} : bTup [.lst ds] = .ok (.tup ds) := rfl
/-- a loop that goes through, turn by turn -/
theorem loop_gl {α : Type} {g : Gv} {b : Sv} {ds : List D} {ρ : Rho} {k : Fl → Res α} {Q : Res α → Prop} (P : Nat → Rho → Prop) (h0 : P 0 ρ)
    (st : ∀ i d ρ, ds[i]? = some d → P i ρ → ∃ ρ2, (g d ρ).bind b = .ok (.nx ρ2) ∧ P (i + 1) ρ2) (fi : ∀ ρ', P ds.length ρ' → Q (k (.nx ρ'))) : Q ((loop g b ds ρ).bind k) := by
  suffices h : ∀ (ds : List D) (j : Nat) (ρ : Rho), P j ρ → (∀ i d ρ, ds[i]? = some d → P (j + i) ρ → ∃ ρ2, (g d ρ).bind b = .ok (.nx ρ2) ∧ P (j + i + 1) ρ2) → ∃ ρ', loop g b ds ρ = .ok (.nx ρ') ∧ P (j + ds.length) ρ' by
    obtain ⟨ρ', e, hp⟩ := h ds 0 ρ h0 (fun i d ρ hd hp => by rw [Nat.zero_add] at hp ⊢; exact st i d ρ hd hp)
    rw [e]
    exact fi ρ' (by rw [Nat.zero_add] at hp; exact hp)
  intro ds
  induction ds with
  | nil => intro j ρ hp _; exact ⟨ρ, rfl, hp⟩
  | cons d ds ih =>
    intro j ρ hp st
    obtain ⟨ρ2, e, hp2⟩ := st 0 d ρ rfl hp
    obtain ⟨ρ', e', hp'⟩ := ih (j + 1) ρ2 hp2 fun i d' ρ' hd hp => by
      have := st (i + 1) d' ρ' (by simpa using hd) (by rw [show j + (i + 1) = j + 1 + i by omega]; exact hp)
      rw [show j + (i + 1) = j + 1 + i by omega] at this
      exact this
    refine ⟨ρ', ?_, by rw [List.length_cons, show j + (ds.length + 1) = j + 1 + ds.length by omega]; exact hp'⟩
    rw [loop]
    cases hg : g d ρ with
    | no => rw [hg] at e; cases e
    | err c => rw [hg] at e; cases e
    | ok ρ1 =>
      rw [hg] at e
      have e2 : b ρ1 = .ok (.nx ρ2) := e
      simp only [Res.bind, e2]
      exact e'
theorem rng_ix {lo c : Int} {n i : Nat} {d : D} (h : (rng lo n c)[i]? = some d) : i < n ∧ d = .int (lo + (i : Int) * c) := by
  unfold rng at h
  rw [List.getElem?_map] at h
  by_cases hi : i < n
  · rw [List.getElem?_range hi] at h
    cases h
    exact ⟨hi, rfl⟩
  · rw [List.getElem?_eq_none (by rw [List.length_range]; omega)] at h
    cases h
noncomputable def compF (t : Tv) (f : Ev) (ρ : Rho) (ds : List D) : Res (List D) := if ds.length ≤ 16777215 then compD t f ρ ds else .no
theorem fComp_at {it : Fv} {t : Tv} {f : Ev} {ρ : Rho} : fComp it t f ρ = (it ρ).bind (compF t f ρ) := rfl
theorem oNe_rfl {d : D} (h : dep d ≤ 50) : oNe d d = .ok (.bl false) := by unfold oNe; rw [if_pos h, eqD_refl]; rfl
theorem slice_to {ds : List D} {k : Int} (h : 0 ≤ k) : sliceD ds none (some k) = ds.take k.toNat := by
  unfold sliceD cut
  simp only [h, if_true, List.drop_zero, Nat.sub_zero]
  rcases Nat.le_total k.toNat ds.length with l | l
  · rw [Nat.min_eq_left l]
  · rw [Nat.min_eq_right l, List.take_length, List.take_of_length_le l]
theorem drop_min {α : Type} (l : List α) (a : Nat) : l.drop (min a l.length) = l.drop a := by
  rcases Nat.le_total a l.length with h | h
  · rw [Nat.min_eq_left h]
  · rw [Nat.min_eq_right h, List.drop_length, List.drop_eq_nil_of_le h]
theorem slice_from {ds : List D} {a : Int} (h1 : 0 ≤ a) : sliceD ds (some a) none = ds.drop a.toNat := by
  unfold sliceD cut
  simp only [h1, if_true]
  rw [drop_min, List.take_of_length_le (by rw [List.length_drop]; omega)]
theorem depS_ints : ∀ {ns : List Int}, depS (ns.map D.int) = 0
  | [] => rfl
  | _ :: ns => by rw [List.map_cons, depS, depS_ints]; rfl
theorem ix_map {α : Type} {f : α → D} {l : List α} {i : Int} {a : α} (h0 : 0 ≤ i) (h : l[i.toNat]? = some a) : oIx (.lst (l.map f)) (.int i) = .ok (f a) := by
  show ofO (atD (l.map f) i) = _
  unfold atD
  rw [if_pos h0, List.getElem?_map, h]
  rfl
noncomputable def popS (i : Nat) (ρ : Rho) : Option Sl → Res Fl
  | some (.own ds) => if ds.length = 0 then .no else .ok (.nx (ρ.set i (.own ds.dropLast)))
  | _ => .no
theorem sPop_at {i : Nat} {ρ : Rho} : sPop i ρ = popS i ρ ρ[i]? := by unfold sPop popS; rfl
theorem oIx_tc {d : D} {ds : List D} {i : Int} : oIx (.tup (d :: ds)) (.int i) = ofO (atD (d :: ds) i) := rfl
noncomputable def repG (ds : List D) : D → Res (List D)
  | .int k => if 0 ≤ k ∧ k < 2 ^ 62 ∧ ds.length * k.toNat ≤ 16777216 then .ok (List.replicate k.toNat ds).flatten else .no
  | _ => .no
noncomputable def repF (g : Ev) (ρ : Rho) (ds : List D) : Res (List D) := (g ρ).bind (repG ds)
theorem fRep_at {f : Fv} {g : Ev} {ρ : Rho} : fRep f g ρ = (f ρ).bind (repF g ρ) := by
  unfold fRep repF; congr
noncomputable def fSl3I (x : D) (l h : Option Int) (c : D) : Res (List D) := match x, c with
  | .lst ds, .int c => if c = 0 then .no else .ok (stepD ds l h c)
  | _, _ => .no
noncomputable def fSl3H (st : Ev) (ρ : Rho) (x : D) (l h : Option Int) : Res (List D) := (st ρ).bind (fSl3I x l h)
noncomputable def fSl3G (hi : Ov) (st : Ev) (ρ : Rho) (x : D) (l : Option Int) : Res (List D) := (hi ρ).bind (fSl3H st ρ x l)
noncomputable def fSl3F (lo hi : Ov) (st : Ev) (ρ : Rho) (x : D) : Res (List D) := (lo ρ).bind (fSl3G hi st ρ x)
theorem fSl3_at {a : Ev} {lo hi : Ov} {st : Ev} {ρ : Rho} : fSl3 a lo hi st ρ = (a ρ).bind (fSl3F lo hi st ρ) := by
  unfold fSl3 fSl3F fSl3G fSl3H; congr
theorem fSl3I_i {ds : List D} {l h : Option Int} {c : Int} (h0 : c ≠ 0) : fSl3I (.lst ds) l h (.int c) = .ok (stepD ds l h c) := if_neg h0
/-- a comprehension over things that are told by others -/
theorem comp_of {α : Type} {u : α → D} {f : Ev} {ρ : Rho} {g : α → D} : ∀ {l : List α}, (∀ a ∈ l, f (ρ ++ [.val (u a)]) = .ok (g a)) → compD tTrue f ρ (l.map u) = .ok (l.map g)
  | [], _ => rfl
  | a :: l, h => by
    rw [List.map_cons, compD, h a List.mem_cons_self]
    simp only [tTrue, noErr, Res.bind, if_true]
    rw [comp_of fun b hb => h b (List.mem_cons_of_mem _ hb)]
    rfl
theorem compF_of {α : Type} {u : α → D} {f : Ev} {ρ : Rho} {g : α → D} {l : List α} (hl : l.length ≤ 16777215) (h : ∀ a ∈ l, f (ρ ++ [.val (u a)]) = .ok (g a)) : compF tTrue f ρ (l.map u) = .ok (l.map g) := by
  unfold compF; rw [if_pos (by rw [List.length_map]; exact hl), comp_of h]
noncomputable def revD : D → Res (List D)
  | .tup ds => .ok ds.reverse
  | _ => .no
theorem revD_t {ds : List D} : revD (.tup ds) = .ok ds.reverse := rfl
theorem iRev_at {e : Ev} {ρ : Rho} : iRev e ρ = (e ρ).bind revD := by
  unfold iRev; congr
theorem gLst_at {gs : List D → Rho → Res Rho} {ds : List D} {ρ : Rho} : gLst gs (.lst ds) ρ = gs ds ρ := rfl
theorem bSum_l {ns : List Int} : bSum [.lst (ns.map D.int)] = .ok (.int ns.sum) := by
  have e : ∀ ns : List Int, intsD (ns.map D.int) = some ns := by
    intro ns
    induction ns with
    | nil => rfl
    | cons i ns ih => rw [List.map_cons, intsD, ih]
  show (match intsD (ns.map D.int) with | some ns => Res.ok (D.int ns.sum) | none => .no) = _
  rw [e]
theorem bSum_t {ns : List Int} : bSum [.tup (ns.map D.int)] = .ok (.int ns.sum) := by
  have e : ∀ ns : List Int, intsD (ns.map D.int) = some ns := by
    intro ns
    induction ns with
    | nil => rfl
    | cons i ns ih => rw [List.map_cons, intsD, ih]
  show (match intsD (ns.map D.int) with | some ns => Res.ok (D.int ns.sum) | none => .no) = _
  rw [e]
/-! texts -/
theorem iStr_at {f : Ev} {ρ : Rho} : iStr f ρ = (f ρ).bind chrD := rfl
theorem chrD_s {x : Str} : chrD (.str x) = .ok (x.cps.toList.map fun c => .str ⟨#[c]⟩) := rfl
noncomputable def slSG (l : Option Int) (x : D) (h : Option Int) : Res D := slS l h x
noncomputable def slSF (hi : Ov) (ρ : Rho) (x : D) (l : Option Int) : Res D := (hi ρ).bind (slSG l x)
noncomputable def slSE (lo hi : Ov) (ρ : Rho) (x : D) : Res D := (lo ρ).bind (slSF hi ρ x)
theorem eSlS_at {a : Ev} {lo hi : Ov} {ρ : Rho} : eSlS a lo hi ρ = (a ρ).bind (slSE lo hi ρ) := rfl
theorem slS_s {l h : Option Int} {x : Str} : slS l h (.str x) = if x.length ≤ sizeLine then .ok (.str (Txt.slice x l h)) else .no := rfl
noncomputable def chB (o o' : Op2) (h : Ev) (ρ : Rho) (x y : D) : Res D := (o x y).bind (chnF o' h ρ y)
noncomputable def chA (o o' : Op2) (g h : Ev) (ρ : Rho) (x : D) : Res D := (g ρ).bind (chB o o' h ρ x)
theorem eChain_at {o o' : Op2} {f g h : Ev} {ρ : Rho} : eChain o o' f g h ρ = (f ρ).bind (chA o o' g h ρ) := rfl
theorem chnF_t {o : Op2} {h : Ev} {ρ : Rho} {y : D} : chnF o h ρ y (.bl true) = (h ρ).bind (o y) := rfl
theorem chnF_f {o : Op2} {h : Ev} {ρ : Rho} {y : D} : chnF o h ρ y (.bl false) = .ok (.bl false) := rfl
theorem oAddS_s {x y : Str} : oAddS (.str x) (.str y) = if x.length + y.length ≤ sizeLine then .ok (.str (x ++ y)) else .no := rfl
theorem oMulS_s {x : Str} {n : Int} : oMulS (.str x) (.int n) = if -(2 ^ 63) ≤ n ∧ n < 2 ^ 63 ∧ x.length * n.toNat ≤ sizeLine then .ok (.str (repS x n)) else .no := rfl
theorem oIxS_s {z : Str} {i : Int} : oIxS (.str z) (.int i) = if 0 ≤ i ∧ i < 2 ^ 63 then chO z.cps[i.toNat]? else .no := rfl
theorem oInS_s {x y : Str} : oInS (.str x) (.str y) = .ok (.bl (inS x y)) := rfl
theorem oNotInS_s {x y : Str} : oNotInS (.str x) (.str y) = .ok (.bl (!inS x y)) := rfl
theorem bStr_i {i : Int} : bStr [.int i] = if i.natAbs.log2 < 1920 then .ok (.str (toString i)) else .no := rfl
theorem bLenS_s {x : Str} : bLenS [.str x] = if x.length ≤ sizeLine then .ok (.int x.length) else .no := rfl
theorem chO_s {c : Nat} : chO (some c) = .ok (.str ⟨#[c]⟩) := rfl
theorem dep_s {x : Str} : dep (.str x) ≤ 50 := by simp [dep]
theorem oEq_s {x y : Str} : oEq (.str x) (.str y) = .ok (.bl (x == y)) := by
  unfold oEq; rw [if_pos dep_s, eqD]
theorem oNe_s {x y : Str} : oNe (.str x) (.str y) = .ok (.bl (!(x == y))) := by
  unfold oNe; rw [if_pos dep_s, eqD]
theorem oIxS_0 {z : Str} : oIxS (.str z) (.int 0) = chO z.cps[0]? := by rw [oIxS_s, if_pos ⟨by decide, by decide⟩]; rfl
theorem oTabNot_s {T : List (Str × Str)} {x : Str} : oTabNot T (.str x) = .ok (.bl (!(T.lookup x).isSome)) := rfl
theorem oTabIn_s {T : List (Str × Str)} {x : Str} : oTabIn T (.str x) = .ok (.bl (T.lookup x).isSome) := rfl
theorem intsD_map {α : Type} (p : α → Int) : ∀ l : List α, intsD (l.map fun a => D.int (p a)) = some (l.map p)
  | [] => rfl
  | a :: l => by rw [List.map_cons, intsD, intsD_map p l]; rfl
noncomputable def mx0 : List Int → Int
  | [] => 0
  | a :: r => maxI a r
theorem bMaxD_map {α : Type} {p : α → Int} {l : List α} : bMaxD [.lst (l.map fun a => D.int (p a)), .int 0] = .ok (.int (mx0 (l.map p))) := by
  show (match intsD (l.map fun a => D.int (p a)) with | some (a :: r) => Res.ok (D.int (maxI a r)) | some [] => .ok (.int 0) | none => .no) = _
  rw [intsD_map]
  cases l <;> rfl
theorem bMaxL_map {α : Type} {p : α → Int} {l : List α} (h : 0 < l.length) : bMaxL [.lst (l.map fun a => D.int (p a))] = .ok (.int (mx0 (l.map p))) := by
  show (match intsD (l.map fun a => D.int (p a)) with | some (a :: r) => Res.ok (D.int (maxI a r)) | _ => .no) = _
  rw [intsD_map]
  cases l with
  | nil => cases h
  | cons a r => rfl
/-! zip, enumerate -/
noncomputable def zipF : List D → Res (List D)
  | [x, y] => match seqO x, seqO y with
    | some xs, some ys => .ok (pairD xs ys)
    | _, _ => .no
  | _ => .no
theorem iZip_at {a : Fv} {ρ : Rho} : iZip a ρ = (a ρ).bind zipF := by
  unfold iZip; congr
noncomputable def enumF : D → Res (List D)
  | .lst ds => .ok (enumD 0 ds)
  | .tup ds => .ok (enumD 0 ds)
  | _ => .no
theorem enumF_t {ds : List D} : enumF (.tup ds) = .ok (enumD 0 ds) := rfl
theorem enumF_l {ds : List D} : enumF (.lst ds) = .ok (enumD 0 ds) := rfl
theorem iEnum_at {e : Ev} {ρ : Rho} : iEnum e ρ = (e ρ).bind enumF := by
  unfold iEnum; congr
noncomputable def comp2F (f : Ev) (ρ : Rho) (ds : List D) : Res (List D) := if ds.length ≤ 16777215 then comp2D f ρ ds else .no
theorem fComp2_at {it : Fv} {f : Ev} {ρ : Rho} : fComp2 it f ρ = (it ρ).bind (comp2F f ρ) := rfl
noncomputable def slQE (hi : Ov) (ρ : Rho) (x : D) (l : Option Int) : Res D := (hi ρ).bind fun h => slQ l h x
noncomputable def slQF (lo hi : Ov) (ρ : Rho) (x : D) : Res D := (lo ρ).bind (slQE hi ρ x)
theorem eSlQ_at {a : Ev} {lo hi : Ov} {ρ : Rho} : eSlQ a lo hi ρ = (a ρ).bind (slQF lo hi ρ) := rfl
noncomputable def slQG (x : D) (l h : Option Int) : Res D := slQ l h x
theorem slQE_at {hi : Ov} {ρ : Rho} {x : D} {l : Option Int} : slQE hi ρ x l = (hi ρ).bind (slQG x l) := rfl
theorem slQG_l {ds : List D} {l h : Option Int} : slQG (.lst ds) l h = .ok (.lst (sliceD ds l h)) := rfl
theorem slQG_t {ds : List D} {l h : Option Int} : slQG (.tup ds) l h = .ok (.tup (sliceD ds l h)) := rfl
theorem eFst_at {fs : Fv} {ρ : Rho} : eFst fs ρ = (fs ρ).bind fstD := rfl
theorem eJoin_at {sep : Str} {e : Ev} {ρ : Rho} : eJoin sep e ρ = (e ρ).bind (joinD sep) := rfl
end L3

namespace Ln
open Fq
/-! ### points of lines, without any program -/
noncomputable abbrev Pt := Rat × Rat
noncomputable def asc (a b : Pt) : Prop := a.1 < b.1 ∧ a.2 ≤ b.2
/-- b lies straight between a and c -/
noncomputable def btw (a b c : Pt) : Bool := decide ((b.2 - a.2) * (c.1 - b.1) = (c.2 - b.2) * (b.1 - a.1))
/-- what is kept, the last one first -/
noncomputable def push : List Pt → Pt → List Pt
  | b :: a :: s, c => if btw a b c = true then c :: a :: s else c :: b :: a :: s
  | s, c => c :: s
/-- behind a: the points at which the slope changes, and the last one -/
noncomputable def few : Pt → List Pt → List Pt
  | _, [] => []
  | _, [b] => [b]
  | a, b :: c :: r => if btw a b c = true then few b (c :: r) else b :: few b (c :: r)
/-- the points of a line -/
noncomputable def Ok (ps : List Pt) : Prop := ps.head? = some (0, 0) ∧ ps.Pairwise asc
/-- over one bottom -/
noncomputable def Gd (N : Nat) (K : Nat) (q : Rat) : Prop := ∃ a : Int, q = Rat.divInt a N ∧ a.natAbs ≤ K
end Ln

namespace L3
open PySem PySem.Spec PyProof.Rows L2
noncomputable abbrev St := L2.St
/-! ### values in the heap -/
mutual
inductive IsD (K : PySem.W.Frag) (H : Hp) : V → D → Prop where
  | non : IsD K H .non .non
  | bl (b : Bool) : IsD K H (.bl b) (.bl b)
  | int (i : Int) : IsD K H (.int i) (.int i)
  | str (x : Str) : IsD K H (.str x) (.str x)
  | tup {a : Addr} {xs : List V} {ds : List D} : SqT K H a xs → IsDs K H xs ds → IsD K H (.ref a) (.tup ds)
  | lst {a : Addr} {xs : List V} {ds : List D} : SqL K H a xs → IsDs K H xs ds → IsD K H (.ref a) (.lst ds)
inductive IsDs (K : PySem.W.Frag) (H : Hp) : List V → List D → Prop where
  | nil : IsDs K H [] []
  | cons {v : V} {d : D} {vs : List V} {ds : List D} : IsD K H v d → IsDs K H vs ds → IsDs K H (v :: vs) (d :: ds)
end
theorem _root_.L2.Same.rd {H H' : Hp} (e : Same H H') {a : Addr} {u : HO} (h : Rd H a u) : Rd H' a u := by
  rcases h with h | ⟨o, h⟩
  · exact .inl (e _ _ h)
  · exact .inr ⟨o, e _ _ h⟩
theorem sqT_mono {K : PySem.W.Frag} {H H' : Hp} (e : Same H H') {a : Addr} {xs : List V} (h : SqT K H a xs) : SqT K H' a xs := h.imp (Same.rd e) id
theorem sqL_mono {K : PySem.W.Frag} {H H' : Hp} (e : Same H H') {a : Addr} {xs : List V} (h : SqL K H a xs) : SqL K H' a xs := h.imp (Same.rd e) id
section
variable {K : PySem.W.Frag} {H H' : Hp}
mutual
theorem IsD.mono (e : Same H H') : ∀ {v : V} {d : D}, IsD K H v d → IsD K H' v d
  | _, _, .non => .non
  | _, _, .bl b => .bl b
  | _, _, .int i => .int i
  | _, _, .str x => .str x
  | _, _, .tup h hs => .tup (sqT_mono e h) (IsDs.mono e hs)
  | _, _, .lst h hs => .lst (sqL_mono e h) (IsDs.mono e hs)
theorem IsDs.mono (e : Same H H') : ∀ {vs : List V} {ds : List D}, IsDs K H vs ds → IsDs K H' vs ds
  | _, _, .nil => .nil
  | _, _, .cons h hs => .cons (IsD.mono e h) (IsDs.mono e hs)
end
theorem IsDs.length : ∀ {vs : List V} {ds : List D}, IsDs K H vs ds → vs.length = ds.length
  | _, _, .nil => rfl
  | _, _, .cons _ hs => by rw [List.length_cons, List.length_cons, IsDs.length hs]
theorem IsDs.get : ∀ {vs : List V} {ds : List D} {j : Nat} {v : V}, IsDs K H vs ds → vs[j]? = some v → ∃ d, ds[j]? = some d ∧ IsD K H v d
  | _, _, _, _, .nil, e => by simp at e
  | _, _, 0, _, .cons r _, e => by simp at e; subst e; exact ⟨_, rfl, r⟩
  | _, _, j + 1, v, .cons _ t, e => by
    obtain ⟨d, h1, h2⟩ := IsDs.get (j := j) (v := v) t (by simpa using e)
    exact ⟨d, by simpa using h1, h2⟩
theorem IsDs.at : ∀ {vs : List V} {ds : List D} {j : Nat} {d : D}, IsDs K H vs ds → ds[j]? = some d → ∃ v, vs[j]? = some v ∧ IsD K H v d
  | _, _, _, _, .nil, e => by simp at e
  | _, _, 0, _, .cons r _, e => by simp at e; subst e; exact ⟨_, rfl, r⟩
  | _, _, j + 1, d, .cons _ t, e => by
    obtain ⟨v, h1, h2⟩ := IsDs.at (j := j) (d := d) t (by simpa using e)
    exact ⟨v, by simpa using h1, h2⟩
theorem IsDs.append : ∀ {vs ws : List V} {ds es : List D}, IsDs K H vs ds → IsDs K H ws es → IsDs K H (vs ++ ws) (ds ++ es)
  | _, _, _, _, .nil, s => s
  | _, _, _, _, .cons r t, s => .cons r (IsDs.append t s)
theorem IsDs.take : ∀ {vs : List V} {ds : List D} (n : Nat), IsDs K H vs ds → IsDs K H (vs.take n) (ds.take n)
  | _, _, 0, _ => .nil
  | _, _, _ + 1, .nil => .nil
  | _, _, n + 1, .cons r t => .cons r (IsDs.take n t)
theorem IsDs.drop : ∀ {vs : List V} {ds : List D} (n : Nat), IsDs K H vs ds → IsDs K H (vs.drop n) (ds.drop n)
  | _, _, 0, r => r
  | _, _, _ + 1, .nil => .nil
  | _, _, n + 1, .cons _ t => IsDs.drop n t
theorem IsDs.dropLast : ∀ {vs : List V} {ds : List D}, IsDs K H vs ds → IsDs K H vs.dropLast ds.dropLast
  | _, _, .nil => .nil
  | _, _, .cons _ .nil => .nil
  | _, _, .cons r (.cons q t) => .cons r (IsDs.dropLast (.cons q t))
/-! what has no list leans on tuples alone -/
mutual
theorem IsD.noL (k : ∀ b xs, Rd H b (.tup xs) → Rd H' b (.tup xs)) : ∀ {v : V} {d : D}, IsD K H v d → L3.noL d = true → IsD K H' v d
  | _, _, .non, _ => .non
  | _, _, .bl b, _ => .bl b
  | _, _, .int i, _ => .int i
  | _, _, .str x, _ => .str x
  | _, _, .tup h hs, e => .tup (h.imp (k _ _) id) (IsDs.noL k hs (by rw [L3.noL] at e; exact e))
  | _, _, .lst h hs, e => by rw [L3.noL] at e; cases e
theorem IsDs.noL (k : ∀ b xs, Rd H b (.tup xs) → Rd H' b (.tup xs)) : ∀ {vs : List V} {ds : List D}, IsDs K H vs ds → L3.noLs ds = true → IsDs K H' vs ds
  | _, _, .nil, _ => .nil
  | _, _, .cons h hs, e => by
    rw [L3.noLs, Bool.and_eq_true] at e
    exact .cons (IsD.noL k h e.1) (IsDs.noL k hs e.2)
end
end
theorem IsD.intI {K : PySem.W.Frag} {H : Hp} {v : V} {i : Int} (h : IsD K H v (.int i)) : v = .int i := by cases h; rfl
theorem IsD.blI {K : PySem.W.Frag} {H : Hp} {v : V} {b : Bool} (h : IsD K H v (.bl b)) : v = .bl b := by cases h; rfl
theorem IsD.strI {K : PySem.W.Frag} {H : Hp} {v : V} {x : Str} (h : IsD K H v (.str x)) : v = .str x := by cases h; rfl
theorem IsD.tupI {K : PySem.W.Frag} {H : Hp} {v : V} {ds : List D} (h : IsD K H v (.tup ds)) : ∃ a xs, v = .ref a ∧ SqT K H a xs ∧ IsDs K H xs ds := by
  cases h with
  | tup h hs => exact ⟨_, _, rfl, h, hs⟩
theorem IsD.lstI {K : PySem.W.Frag} {H : Hp} {v : V} {ds : List D} (h : IsD K H v (.lst ds)) : ∃ a xs, v = .ref a ∧ SqL K H a xs ∧ IsDs K H xs ds := by
  cases h with
  | lst h hs => exact ⟨_, _, rfl, h, hs⟩
/-! ### heaps that grow: Hi what is never written (all values lean on it), H all -/
structure Ext (Hi H Hi' H' : Hp) : Prop where
  i : Same Hi Hi'
  h : Same H H'
  s : Same Hi' H'
  n : ∀ b, Hi b = none → Hi' b ≠ none → H b = none
theorem Ext.refl {Hi H : Hp} (h : Same Hi H) : Ext Hi H Hi H := ⟨Same.refl _, Same.refl _, h, fun _ e q => absurd e q⟩
theorem Ext.trans {Hi H Hi1 H1 Hi2 H2 : Hp} (a : Ext Hi H Hi1 H1) (b : Ext Hi1 H1 Hi2 H2) : Ext Hi H Hi2 H2 :=
  ⟨a.i.trans b.i, a.h.trans b.h, b.s, fun c e q => by
    cases z : Hi1 c with
    | some o => exact a.n c e (by rw [z]; exact fun w => by cases w)
    | none =>
      have z2 := b.n c z q
      cases z3 : H c with
      | none => rfl
      | some o => rw [a.h _ _ z3] at z2; cases z2⟩
/-- a new object that is never written -/
theorem same_new' {H : Hp} {p : Addr} (h : H p = none) (o : HO) : Same H (upd H p o) := fun b u q => by rw [upd_ne (ne_of_none q h)]; exact q
theorem _root_.L2.Same.none {H H' : Hp} (h : Same H H') {p : Addr} (e : H' p = none) : H p = none := by
  cases z : H p with
  | none => rfl
  | some o => rw [h _ _ z] at e; cases e
theorem Ext.new {Hi H : Hp} {p : Addr} {o : HO} (h : Same Hi H) (hp : H p = none) : Ext Hi H (upd Hi p o) (upd H p o) where
  i := same_new' (h.none hp) o
  h := same_new' hp o
  s := fun b u q => by
    by_cases e : b = p
    · subst e; rw [upd_same] at q ⊢; exact q
    · rw [upd_ne e] at q ⊢; exact h _ _ q
  n := fun b e q => by
    by_cases z : b = p
    · rw [z]; exact hp
    · rw [upd_ne z] at q; exact absurd e q
/-- a new object that may be written -/
theorem Ext.newF {Hi H : Hp} {p : Addr} {o : HO} (h : Same Hi H) (hp : H p = none) : Ext Hi H Hi (upd H p o) where
  i := Same.refl _
  h := same_new' hp o
  s := h.trans (same_new' hp o)
  n := fun b e q => absurd e q
theorem Ext.out {Hi H Hi' H' : Hp} (e : Ext Hi H Hi' H') {a : Addr} {o : HO} (h : H a = some o) (hi : Hi a = none) : H' a = some o ∧ Hi' a = none := by
  refine ⟨e.h _ _ h, ?_⟩
  cases z : Hi' a with
  | none => rfl
  | some u => have := e.n a hi (by rw [z]; exact fun w => by cases w); rw [h] at this; cases this
/-- it becomes one that is never written -/
theorem Ext.hold {Hi H Hi' H' : Hp} (e : Ext Hi H Hi' H') {a : Addr} {o : HO} (hn : H a = none) (h : H' a = some o) (hi : Hi' a = none) : Ext Hi H (upd Hi' a o) H' where
  i := e.i.trans (same_new' hi o)
  h := e.h
  s := fun b u q => by
    by_cases z : b = a
    · subst z; rw [upd_same] at q; cases q; exact h
    · rw [upd_ne z] at q; exact e.s _ _ q
  n := fun b z q => by
    by_cases w : b = a
    · rw [w]; exact hn
    · rw [upd_ne w] at q; exact e.n b z q
/-! ### names -/
/-- the object of an error of the class at C -/
noncomputable def excAt (a C : Addr) : Heap → Prop := fun h => ∃ o vs, h.get? a = some o ∧ o.cls = .ref C ∧ o.data = .fields vs
noncomputable def kvT (T : List (Str × Str)) : List (Key × V) := T.map fun q => (Sum.inr q.1, V.str q.2)
noncomputable def SlotOk (K : PySem.W.Frag) (mg : Str → Option Value) (B Hi H : Hp) (o : Option (Option V)) : Sl → Prop
  | .un => True
  | .val d => ∃ v, o = some (some v) ∧ IsD K Hi v d
  | .own ds => ∃ a xs, o = some (some (.ref a)) ∧ H a = some (.lst xs) ∧ Hi a = none ∧ B a = none ∧ IsDs K Hi xs ds
  | .exc c => ∃ a C, o = some (some (.ref a)) ∧ H a = some (.ext (excAt a C)) ∧ Hi a = none ∧ B a = none ∧ mg c = some (.ref C)
  | .tab T => ∃ a, o = some (some (.ref a)) ∧ Hi a = some (.dK (kvT T))
structure Rel (K : PySem.W.Frag) (mg : Str → Option Value) (B Bi Hi H : Hp) (σ : St) (ρ : Rho) : Prop where
  len : σ.length = ρ.length
  ext : Ext Bi B Hi H
  slot : ∀ (i : Nat) (s : Sl), ρ[i]? = some s → SlotOk K mg B Hi H σ[i]? s
  dist : ∀ (i j : Nat) (a : Addr) (ds es : List D), ρ[i]? = some (.own ds) → ρ[j]? = some (.own es) → σ[i]? = some (some (.ref a)) → σ[j]? = some (some (.ref a)) → i = j
section
variable {K : PySem.W.Frag} {mg : Str → Option Value} {B Bi Hi H Hi' H' : Hp} {σ : St} {ρ : Rho}
theorem SlotOk.ext {o : Option (Option V)} {s : Sl} (h : SlotOk K mg B Hi H o s) (e : Ext Hi H Hi' H') : SlotOk K mg B Hi' H' o s := by
  cases s with
  | un => trivial
  | val d => obtain ⟨v, q, r⟩ := h; exact ⟨v, q, r.mono e.i⟩
  | own ds =>
    obtain ⟨a, xs, q, h1, h2, h3, h4⟩ := h
    obtain ⟨e1, e2⟩ := e.out h1 h2
    exact ⟨a, xs, q, e1, e2, h3, h4.mono e.i⟩
  | exc c =>
    obtain ⟨a, C, q, h1, h2, h3, h4⟩ := h
    obtain ⟨e1, e2⟩ := e.out h1 h2
    exact ⟨a, C, q, e1, e2, h3, h4⟩
  | tab T => obtain ⟨a, q, h1⟩ := h; exact ⟨a, q, e.i _ _ h1⟩
theorem Rel.grow (R : Rel K mg B Bi Hi H σ ρ) (e : Ext Hi H Hi' H') : Rel K mg B Bi Hi' H' σ ρ := ⟨R.len, R.ext.trans e, fun i s q => (R.slot i s q).ext e, R.dist⟩
theorem Rel.s (R : Rel K mg B Bi Hi H σ ρ) : Same Hi H := R.ext.s
/-- a name is bound anew -/
theorem Rel.set {i : Nat} {v : V} {d : D} (R : Rel K mg B Bi Hi H σ ρ) (h : IsD K Hi v d) : Rel K mg B Bi Hi H (σ.set i (some v)) (ρ.set i (.val d)) where
  len := by rw [List.length_set, List.length_set]; exact R.len
  ext := R.ext
  slot := fun j s q => by
    by_cases e : i = j
    · subst e
      by_cases hl : i < ρ.length
      · rw [List.getElem?_set_self hl] at q; cases q
        exact ⟨v, by rw [List.getElem?_set_self (by rw [R.len]; exact hl)], h⟩
      · rw [List.getElem?_eq_none (by rw [List.length_set]; omega)] at q; cases q
    · rw [List.getElem?_set_ne e] at q ⊢
      exact R.slot j s q
  dist := fun j k a ds es q1 q2 q3 q4 => by
    have h1 : ∀ {j : Nat} {ds : List D}, (ρ.set i (.val d))[j]? = some (.own ds) → i ≠ j := fun {j ds} q e => by
      subst e
      by_cases hl : i < ρ.length
      · rw [List.getElem?_set_self hl] at q; cases q
      · rw [List.getElem?_eq_none (by rw [List.length_set]; omega)] at q; cases q
    have n1 := h1 q1
    have n2 := h1 q2
    rw [List.getElem?_set_ne n1] at q1 q3
    rw [List.getElem?_set_ne n2] at q2 q4
    exact R.dist j k a ds es q1 q2 q3 q4
/-- a name is bound to a new list -/
theorem Rel.setOwn {i : Nat} {a : Addr} {xs : List V} {ds : List D} (R : Rel K mg B Bi Hi H σ ρ) (e : Ext Hi H Hi' H') (hn : H a = none) (h : H' a = some (.lst xs)) (hi : Hi' a = none) (hs : IsDs K Hi' xs ds) :
    Rel K mg B Bi Hi' H' (σ.set i (some (.ref a))) (ρ.set i (.own ds)) where
  len := by rw [List.length_set, List.length_set]; exact R.len
  ext := R.ext.trans e
  slot := fun j s q => by
    by_cases z : i = j
    · subst z
      by_cases hl : i < ρ.length
      · rw [List.getElem?_set_self hl] at q; cases q
        exact ⟨a, xs, by rw [List.getElem?_set_self (by rw [R.len]; exact hl)], h, hi, R.ext.h.none hn, hs⟩
      · rw [List.getElem?_eq_none (by rw [List.length_set]; omega)] at q; cases q
    · rw [List.getElem?_set_ne z] at q ⊢
      exact (R.slot j s q).ext e
  dist := fun j k b es fs q1 q2 q3 q4 => by
    -- an own list of another name stands elsewhere
    have h1 : ∀ {j : Nat} {es : List D}, i ≠ j → ρ[j]? = some (.own es) → σ[j]? = some (some (.ref a)) → False := fun {j es} _ p1 p2 => by
      obtain ⟨a', xs', q, h1, _⟩ := R.slot j _ p1
      rw [p2] at q
      cases q
      rw [hn] at h1; cases h1
    have h2 : ∀ {j : Nat} {es : List D}, (ρ.set i (.own ds))[j]? = some (.own es) → i < σ.length ∨ i ≠ j := fun {j es} p => by
      by_cases z : i = j
      · subst z
        by_cases hl : i < ρ.length
        · exact .inl (by rw [R.len]; exact hl)
        · rw [List.getElem?_eq_none (by rw [List.length_set]; omega)] at p; cases p
      · exact .inr z
    by_cases z1 : i = j
    · by_cases z2 : i = k
      · rw [← z1, ← z2]
      · exfalso
        subst z1
        have hl : i < σ.length := (h2 q1).resolve_right (fun w => w rfl)
        rw [List.getElem?_set_self hl] at q3; cases q3
        rw [List.getElem?_set_ne z2] at q2 q4
        exact h1 z2 q2 q4
    · by_cases z2 : i = k
      · exfalso
        subst z2
        have hl : i < σ.length := (h2 q2).resolve_right (fun w => w rfl)
        rw [List.getElem?_set_self hl] at q4; cases q4
        rw [List.getElem?_set_ne z1] at q1 q3
        exact h1 z1 q1 q3
      · rw [List.getElem?_set_ne z1] at q1 q3
        rw [List.getElem?_set_ne z2] at q2 q4
        exact R.dist j k b es fs q1 q2 q3 q4
/-- an own list is written -/
theorem Rel.write {i : Nat} {a : Addr} {ys : List V} {ds es : List D} (R : Rel K mg B Bi Hi H σ ρ) (e : ρ[i]? = some (.own ds)) (ea : σ[i]? = some (some (.ref a))) (hs : IsDs K Hi ys es) :
    Rel K mg B Bi Hi (upd H a (.lst ys)) σ (ρ.set i (.own es)) := by
  obtain ⟨a', xs', q, h1, h2, h3, h4⟩ := R.slot i _ e
  rw [ea] at q
  cases q
  have hl : i < ρ.length := by
    by_cases hl : i < ρ.length
    · exact hl
    · rw [List.getElem?_eq_none (by omega)] at e; cases e
  refine ⟨by rw [List.length_set]; exact R.len, ⟨R.ext.i, fun b o z => ?_, fun b o z => ?_, R.ext.n⟩, fun j s z => ?_, fun j k b fs gs q1 q2 q3 q4 => ?_⟩
  · rw [upd_ne (ne_of_none z h3)]; exact R.ext.h _ _ z
  · rw [upd_ne (ne_of_none z h2)]; exact R.ext.s _ _ z
  · by_cases w : i = j
    · subst w
      rw [List.getElem?_set_self hl] at z; cases z
      exact ⟨a, ys, ea, upd_same, h2, h3, hs⟩
    · rw [List.getElem?_set_ne w] at z
      have S := R.slot j s z
      cases s with
      | un => trivial
      | val d => exact S
      | own fs =>
        obtain ⟨b, zs, p, g1, g2, g3, g4⟩ := S
        have hb : b ≠ a := fun c => w (R.dist i j a ds fs e z ea (by rw [p, c]))
        exact ⟨b, zs, p, by rw [upd_ne hb]; exact g1, g2, g3, g4⟩
      | exc c =>
        obtain ⟨b, C, p, g1, g2, g3, g4⟩ := S
        have hb : b ≠ a := ne_of g1 h1 (by intro z; cases z)
        exact ⟨b, C, p, by rw [upd_ne hb]; exact g1, g2, g3, g4⟩
      | tab T => exact S
  · have own : ∀ {j : Nat} {fs : List D}, (ρ.set i (.own es))[j]? = some (.own fs) → ∃ gs, ρ[j]? = some (.own gs) := fun {j fs} p => by
      by_cases w : i = j
      · subst w; exact ⟨ds, e⟩
      · rw [List.getElem?_set_ne w] at p; exact ⟨fs, p⟩
    obtain ⟨fs', q1'⟩ := own q1
    obtain ⟨gs', q2'⟩ := own q2
    exact R.dist j k b fs' gs' q1' q2' q3 q4
/-- an own list becomes a value -/
theorem Rel.frzAt {i : Nat} (R : Rel K mg B Bi Hi H σ ρ) : ∃ Hi', Same Hi Hi' ∧ Rel K mg B Bi Hi' H σ (L3.frzAt i ρ) := by
  unfold L3.frzAt
  split
  · rename_i ds e
    obtain ⟨a, xs, q, h1, h2, h3, h4⟩ := R.slot i _ e
    have hl : i < ρ.length := by
      by_cases hl : i < ρ.length
      · exact hl
      · rw [List.getElem?_eq_none (by omega)] at e; cases e
    have sm : Same Hi (upd Hi a (.lst xs)) := same_new' h2 _
    have ss : Same (upd Hi a (.lst xs)) H := fun b u z => by
      by_cases w : b = a
      · subst w; rw [upd_same] at z; cases z; exact h1
      · rw [upd_ne w] at z; exact R.s _ _ z
    refine ⟨upd Hi a (.lst xs), sm, by rw [List.length_set]; exact R.len, ⟨R.ext.i.trans sm, R.ext.h, ss, fun b z w => ?_⟩, fun j s z => ?_, fun j k b fs gs q1 q2 q3 q4 => ?_⟩
    · by_cases c : b = a
      · rw [c]; exact h3
      · rw [upd_ne c] at w; exact R.ext.n b z w
    · by_cases w : i = j
      · subst w
        rw [List.getElem?_set_self hl] at z; cases z
        exact ⟨.ref a, q, .lst (SqL.of upd_same) (h4.mono sm)⟩
      · rw [List.getElem?_set_ne w] at z
        have S := R.slot j s z
        cases s with
        | un => trivial
        | val d => obtain ⟨v, p, r⟩ := S; exact ⟨v, p, r.mono sm⟩
        | own fs =>
          obtain ⟨b, zs, p, g1, g2, g3, g4⟩ := S
          have hb : b ≠ a := fun c => w (R.dist i j a ds fs e z q (by rw [p, c]))
          exact ⟨b, zs, p, g1, by rw [upd_ne hb]; exact g2, g3, g4.mono sm⟩
        | exc c =>
          obtain ⟨b, C, p, g1, g2, g3, g4⟩ := S
          have hb : b ≠ a := ne_of g1 h1 (by intro z; cases z)
          exact ⟨b, C, p, g1, by rw [upd_ne hb]; exact g2, g3, g4⟩
        | tab T => obtain ⟨b, p, g1⟩ := S; exact ⟨b, p, sm _ _ g1⟩
    · have own : ∀ {j : Nat} {fs : List D}, (ρ.set i (.val (.lst ds)))[j]? = some (.own fs) → ρ[j]? = some (.own fs) := fun {j fs} p => by
        by_cases w : i = j
        · subst w; rw [List.getElem?_set_self hl] at p; cases p
        · rw [List.getElem?_set_ne w] at p; exact p
      exact R.dist j k b fs gs (own q1) (own q2) q3 q4
  · exact ⟨Hi, Same.refl _, R⟩
end
end L3

namespace L3
open PySem PySem.Spec PyProof.Rows L2
section
variable {K : PySem.W.Frag} {mg : Str → Option Value} {B Bi Hi H Hi' H' : Hp} {σ : St} {ρ : Rho}
/-- all own lists seen as values for a while -/
theorem Rel.frz (R : Rel K mg B Bi Hi H σ ρ) : ∃ Hf, Same Hi Hf ∧ Rel K mg B Bi Hf H σ (ρ.map Sl.frz) ∧ ∀ b, Hi b = none → Hf b ≠ none → ∃ xs, Hf b = some (.lst xs) := by
  let own : Addr → Prop := fun b => ∃ (i : Nat) (ds : List D), ρ[i]? = some (.own ds) ∧ σ[i]? = some (some (.ref b))
  have dec : ∀ b, Decidable (own b) := fun b => Classical.propDecidable _
  let Hf : Hp := fun b => match Hi b with
    | some o => some o
    | none => if own b then H b else none
  have hf1 : ∀ b o, Hi b = some o → Hf b = some o := fun b o e => by show (match Hi b with | some o => some o | none => if own b then H b else none) = _; rw [e]
  have hf2 : ∀ b, Hi b = none → own b → Hf b = H b := fun b e z => by show (match Hi b with | some o => some o | none => if own b then H b else none) = _; rw [e]; exact if_pos z
  have hf3 : ∀ b, Hi b = none → ¬ own b → Hf b = none := fun b e z => by show (match Hi b with | some o => some o | none => if own b then H b else none) = _; rw [e]; exact if_neg z
  have lst : ∀ b, own b → ∃ xs, H b = some (.lst xs) ∧ Hi b = none ∧ B b = none := fun b ⟨i, ds, e1, e2⟩ => by
    obtain ⟨a, xs, q, h1, h2, h3, h4⟩ := R.slot i _ e1
    rw [e2] at q; cases q
    exact ⟨xs, h1, h2, h3⟩
  have ss : Same Hf H := fun b o z => by
    cases q : Hi b with
    | some u => rw [hf1 b u q] at z; cases z; exact R.s _ _ q
    | none =>
      by_cases w : own b
      · rw [hf2 b q w] at z; exact z
      · rw [hf3 b q w] at z; cases z
  refine ⟨Hf, hf1, ⟨by rw [List.length_map]; exact R.len, ⟨R.ext.i.trans hf1, R.ext.h, ss, fun b z w => ?_⟩, fun j s z => ?_, fun j k b fs gs q1 q2 q3 q4 => ?_⟩, fun b z w => ?_⟩
  · cases q : Hi b with
    | some u => exact R.ext.n b z (by rw [q]; exact fun c => by cases c)
    | none =>
      by_cases c : own b
      · exact (lst b c).choose_spec.2.2
      · exact absurd (hf3 b q c) w
  · rw [List.getElem?_map] at z
    cases e : ρ[j]? with
    | none => rw [e] at z; cases z
    | some t =>
      rw [e] at z
      cases z
      have S := R.slot j t e
      cases t with
      | un => trivial
      | val d => obtain ⟨v, p, r⟩ := S; exact ⟨v, p, r.mono hf1⟩
      | own ds =>
        obtain ⟨a, xs, q, h1, h2, h3, h4⟩ := S
        exact ⟨.ref a, q, .lst (SqL.of (by rw [hf2 a h2 ⟨j, ds, e, q⟩]; exact h1)) (h4.mono hf1)⟩
      | exc c =>
        obtain ⟨a, C, q, h1, h2, h3, h4⟩ := S
        refine ⟨a, C, q, h1, ?_, h3, h4⟩
        refine hf3 a h2 fun c => ?_
        obtain ⟨xs, g, _⟩ := lst a c
        rw [h1] at g; cases g
      | tab T => obtain ⟨a, q, h1⟩ := S; exact ⟨a, q, hf1 _ _ h1⟩
  · exfalso
    rw [List.getElem?_map] at q1
    cases e : ρ[j]? with
    | none => rw [e] at q1; cases q1
    | some t => rw [e] at q1; cases t <;> cases q1
  · by_cases c : own b
    · obtain ⟨xs, g, _⟩ := lst b c
      exact ⟨xs, by rw [hf2 b z c]; exact g⟩
    · exact absurd (hf3 b z c) w
/-- back from there -/
theorem Ext.thaw {Hf : Hp} (s : Same Hi Hf) (fl : ∀ b, Hi b = none → Hf b ≠ none → ∃ xs, Hf b = some (.lst xs)) (hs : Same Hf H) (e : Ext Hf H Hi' H') :
    ∃ Ht, Ext Hi H Ht H' ∧ (∀ b xs, Rd Hi' b (.tup xs) → Rd Ht b (.tup xs)) ∧ Same Ht Hi' ∧ ∀ b, Ht b = none → Hi' b = none ∨ ∃ xs, H b = some (.lst xs) := by
  have dec : ∀ b, Decidable (Hi b = none ∧ Hf b ≠ none) := fun b => Classical.propDecidable _
  let Ht : Hp := fun b => if Hi b = none ∧ Hf b ≠ none then none else Hi' b
  have t1 : ∀ b, ¬ (Hi b = none ∧ Hf b ≠ none) → Ht b = Hi' b := fun b z => if_neg z
  have t2 : ∀ b, (Hi b = none ∧ Hf b ≠ none) → Ht b = none := fun b z => if_pos z
  have tt : Same Ht Hi' := fun b o z => by
    by_cases w : Hi b = none ∧ Hf b ≠ none
    · rw [t2 b w] at z; cases z
    · rw [t1 b w] at z; exact z
  refine ⟨Ht, ⟨fun b o z => ?_, e.h, tt.trans e.s, fun b z w => ?_⟩, fun b xs r => ?_, tt, fun b z => ?_⟩
  · rw [t1 b (fun w => by rw [z] at w; cases w.1)]; exact e.i _ _ (s _ _ z)
  · by_cases c : Hi b = none ∧ Hf b ≠ none
    · exact absurd (t2 b c) w
    · rw [t1 b c] at w
      have : Hf b = none := by
        cases q : Hf b with
        | none => rfl
        | some u => exact absurd ⟨z, by rw [q]; exact fun c => by cases c⟩ c
      exact e.n b this w
  · have nl : ¬ (Hi b = none ∧ Hf b ≠ none) := fun w => by
      obtain ⟨ys, g⟩ := fl b w.1 w.2
      have g' := e.i _ _ g
      rcases r with r | ⟨o, r⟩ <;> (rw [g'] at r; cases r)
    rcases r with r | ⟨o, r⟩
    · exact .inl (by rw [t1 b nl]; exact r)
    · exact .inr ⟨o, by rw [t1 b nl]; exact r⟩
  · by_cases c : Hi b = none ∧ Hf b ≠ none
    · obtain ⟨ys, g⟩ := fl b c.1 c.2
      exact .inr ⟨ys, hs _ _ g⟩
    · exact .inl (by rw [t1 b c] at z; exact z)
end
/-! ### the readings -/
/-- what stands around a body: the heap at its entry, what of it is never written, and what is wanted of an error -/
structure Gx where
  B : Hp
  Bi : Hp
  E : Str → Hp → Prop
noncomputable abbrev RelX (X : Cx) (G : Gx) (Hi H : Hp) (σ : St) (ρ : Rho) : Prop := Rel X.K X.mg G.B G.Bi Hi H σ ρ
noncomputable def Out (G : Gx) (Hi H : Hp) {α : Type} (r : Res α) (k : α → Hp → Hp → Prop) : Prop := match r with
  | .ok a => ∀ Hi' H', Ext Hi H Hi' H' → k a Hi' H'
  | .err c => ∀ Hi' H', Ext Hi H Hi' H' → G.E c H'
  | .no => False
theorem Out.bind {G : Gx} {Hi H : Hp} {α β : Type} {r : Res α} {f : α → Res β} {k : β → Hp → Hp → Prop} (h : Out G Hi H (r.bind f) k) :
    Out G Hi H r fun a Hi' H' => Out G Hi' H' (f a) k := by
  cases r with
  | no => exact h
  | err c => exact h
  | ok a =>
    intro Hi1 H1 e
    have h' : Out G Hi H (f a) k := h
    show Out G Hi1 H1 (f a) k
    cases q : f a with
    | no => rw [q] at h'; exact h'
    | err c => rw [q] at h'; exact fun Hi2 H2 e2 => h' _ _ (e.trans e2)
    | ok b => rw [q] at h'; exact fun Hi2 H2 e2 => h' _ _ (e.trans e2)
theorem Out.imp {G : Gx} {Hi H : Hp} {α : Type} {r : Res α} {k k' : α → Hp → Hp → Prop} (h : Out G Hi H r k) (f : ∀ a Hi' H', Ext Hi H Hi' H' → k a Hi' H' → k' a Hi' H') : Out G Hi H r k' := by
  cases r with
  | no => exact h
  | err c => exact h
  | ok a => exact fun Hi1 H1 e => f a Hi1 H1 e (h Hi1 H1 e)
/-- now, as it stands -/
theorem Out.here {G : Gx} {Hi H : Hp} {α : Type} {a : α} {k : α → Hp → Hp → Prop} (h : Out G Hi H (.ok a) k) (s : Same Hi H) : k a Hi H := h Hi H (Ext.refl s)
noncomputable def tD (X : Cx) (G : Gx) (f : Ev) : TE := fun σ H Q => ∃ ρ Hi, RelX X G Hi H σ ρ ∧ Out G Hi H (f ρ) fun d Hi' H' => ∀ v, IsD X.K Hi' v d → Q v H'
/-- a new list: at a, may be written -/
noncomputable def NewL (K : PySem.W.Frag) (H Hi' H' : Hp) (a : Addr) (ds : List D) : Prop := H a = none ∧ Hi' a = none ∧ ∃ xs, H' a = some (.lst xs) ∧ IsDs K Hi' xs ds
noncomputable def tF (X : Cx) (G : Gx) (f : Fv) : TE := fun σ H Q => ∃ ρ Hi, RelX X G Hi H σ ρ ∧ Out G Hi H (f ρ) fun ds Hi' H' => ∀ a, NewL X.K H Hi' H' a ds → Q (.ref a) H'
noncomputable def tTb (X : Cx) (G : Gx) (f : Tv) : TT := fun σ H Q => ∃ ρ Hi, RelX X G Hi H σ ρ ∧ Out G Hi H (f ρ) fun b _ H' => Q b H'
noncomputable def tAs (X : Cx) (G : Gx) (f : Fv) : TA := fun σ H Q => ∃ ρ Hi, RelX X G Hi H σ ρ ∧ Out G Hi H (f ρ) fun ds Hi' H' => ∀ vs, IsDs X.K Hi' vs ds → Q vs H'
noncomputable def Fin (X : Cx) (G : Gx) (Hi : Hp) (E : Ends) (r : Res Fl) : Prop := match r with
  | .ok (.nx ρ') => ∀ σ' Hi' H', Same Hi Hi' → RelX X G Hi' H' σ' ρ' → E.nx σ' H'
  | .ok (.brk ρ') => ∀ σ' Hi' H', Same Hi Hi' → RelX X G Hi' H' σ' ρ' → E.bk σ' H'
  | .ok (.ctn ρ') => ∀ σ' Hi' H', Same Hi Hi' → RelX X G Hi' H' σ' ρ' → E.ct σ' H'
  | .ok (.ret (.v d)) => ∀ v Hi' H', Ext G.Bi G.B Hi' H' → IsD X.K Hi' v d → E.rt v H'
  | .ok (.ret (.f ds)) => ∀ a Hi' H', Ext G.Bi G.B Hi' H' → NewL X.K G.B Hi' H' a ds → E.rt (.ref a) H'
  | .err c => ∀ Hi' H', Ext G.Bi G.B Hi' H' → G.E c H'
  | .no => False
theorem Fin.mono {X : Cx} {G : Gx} {Hi Hi' : Hp} {E : Ends} {r : Res Fl} (h : Fin X G Hi E r) (s : Same Hi Hi') : Fin X G Hi' E r := by
  cases r with
  | no => exact h
  | err c => exact h
  | ok f =>
    cases f with
    | nx ρ => exact fun σ' Hi2 H2 s2 => h σ' Hi2 H2 (s.trans s2)
    | brk ρ => exact fun σ' Hi2 H2 s2 => h σ' Hi2 H2 (s.trans s2)
    | ctn ρ => exact fun σ' Hi2 H2 s2 => h σ' Hi2 H2 (s.trans s2)
    | ret r => cases r <;> exact h
noncomputable def tS (X : Cx) (G : Gx) (f : Sv) : TS := fun E σ H => ∃ ρ Hi, RelX X G Hi H σ ρ ∧ Fin X G Hi E (f ρ)
@[irreducible] noncomputable def PEd (X : Cx) (G : Gx) (e : Expr) (f : Ev) : Prop := PE X e (tD X G f)
unseal PEd
@[irreducible] noncomputable def PEf (X : Cx) (G : Gx) (e : Expr) (f : Fv) : Prop := PE X e (tF X G f)
unseal PEf
@[irreducible] noncomputable def PTd (X : Cx) (G : Gx) (e : Expr) (f : Tv) : Prop := PT X e (tTb X G f)
unseal PTd
@[irreducible] noncomputable def PWd (X : Cx) (G : Gx) (e : Expr) (f : Tv) : Prop := PW X e (tTb X G f)
unseal PWd
@[irreducible] noncomputable def PAd (X : Cx) (G : Gx) (es : List Expr) (f : Fv) : Prop := PA X es (tAs X G f)
unseal PAd
@[irreducible] noncomputable def PSd (X : Cx) (G : Gx) (s : Stmt) (f : Sv) : Prop := PS X s (tS X G f)
unseal PSd
@[irreducible] noncomputable def PSsd (X : Cx) (G : Gx) (s : List Stmt) (f : Sv) : Prop := PSs X s (tS X G f)
unseal PSsd
theorem PE.wk {X : Cx} {e : Expr} {t t' : TE} (h : PE X e t) (w : ∀ σ H Q, t' σ H Q → t σ H Q) : PE X e t' := fun pins s σ H Q I q => h pins s σ H Q I (w σ H Q q)
theorem PT.wk {X : Cx} {e : Expr} {t t' : TT} (h : PT X e t) (w : ∀ σ H Q, t' σ H Q → t σ H Q) : PT X e t' := fun pins s σ H Q I q => h pins s σ H Q I (w σ H Q q)
theorem PW.wk {X : Cx} {e : Expr} {t t' : TT} (h : PW X e t) (w : ∀ σ H Q, t' σ H Q → t σ H Q) : PW X e t' := fun wh pins s σ H Q I q => h wh pins s σ H Q I (w σ H Q q)
theorem PA.wk {X : Cx} {es : List Expr} {t t' : TA} (h : PA X es t) (w : ∀ σ H Q, t' σ H Q → t σ H Q) : PA X es t' := fun pos pins s σ H Q I q => h pos pins s σ H Q I (w σ H Q q)
theorem PS.wk {X : Cx} {s : Stmt} {t t' : TS} (h : PS X s t) (w : ∀ E σ H, t' E σ H → t E σ H) : PS X s t' := fun pins s σ H E I q => h pins s σ H E I (w E σ H q)
theorem PSs.wk {X : Cx} {s : List Stmt} {t t' : TS} (h : PSs X s t) (w : ∀ E σ H, t' E σ H → t E σ H) : PSs X s t' := fun pins s σ H E I q => h pins s σ H E I (w E σ H q)
/-! ### expressions -/
section
variable {X : Cx} {G : Gx} {a b e : Expr} {es : List Expr} {pos : Pos} {f g : Ev}
theorem pd_var (i : Nat) (h : PE X e (tVar i)) : PEd X G e (eVar i) := PE.wk h fun σ H Q q => by
  obtain ⟨ρ, Hi, R, o⟩ := q
  unfold eVar at o
  cases z : ρ[i]? with
  | none => rw [z] at o; exact o.elim
  | some s =>
    rw [z] at o
    cases s with
    | val d =>
      obtain ⟨v, p, r⟩ := R.slot i _ z
      exact ⟨v, p, o.here R.s v r⟩
    | un => exact o.elim
    | own ds => exact o.elim
    | exc c => exact o.elim
    | tab T => exact o.elim
theorem pd_c {v : V} {d : D} (h : PE X e (tC v)) (r : ∀ H, IsD X.K H v d) : PEd X G e (eC d) := PE.wk h fun σ H Q q => by
  obtain ⟨ρ, Hi, R, o⟩ := q
  exact o.here R.s v (r Hi)
/-- a value and what comes of it -/
theorem out2 {Hi H : Hp} {σ : St} {ρ : Rho} {β : Type} {k : D → Res β} {k' : β → Hp → Hp → Prop} {Q : VK} (R : RelX X G Hi H σ ρ) (o : Out G Hi H ((f ρ).bind k) k')
    (w : ∀ v d Hi' H', Ext Hi H Hi' H' → RelX X G Hi' H' σ ρ → IsD X.K Hi' v d → Out G Hi' H' (k d) k' → Q v H') : tD X G f σ H Q :=
  ⟨ρ, Hi, R, o.bind.imp fun d Hi' H' e q v r => w v d Hi' H' e (R.grow e) r q⟩
noncomputable def OpK (X : Cx) (r : R2) (o : Op2) : Prop := (∀ a b c, o a b ≠ .err c) ∧ ∀ (Hi H : Hp) (x y : V) (a b d : D) (Q : VK), Same Hi H → IsD X.K Hi x a → IsD X.K Hi y b → o a b = .ok d →
  (∀ v Hi' H', Ext Hi H Hi' H' → IsD X.K Hi' v d → Q v H') → r x y H Q
theorem op2 {r : R2} {o : Op2} (k : OpK X r o) : ∀ σ H Q, tD X G (eOp o f g) σ H Q → tOp r (tD X G f) (tD X G g) σ H Q := fun σ H Q q => by
  obtain ⟨ρ, Hi, R, ou⟩ := q
  refine out2 R ou fun v d Hi1 H1 e1 R1 r1 o1 => ?_
  refine out2 R1 o1 fun w d' Hi2 H2 e2 R2 r2 o2 => ?_
  cases z : o d d' with
  | no => rw [z] at o2; exact o2.elim
  | err c => exact absurd z (k.1 d d' c)
  | ok u =>
    rw [z] at o2
    exact k.2 Hi2 H2 v w d d' u Q R2.s (r1.mono e2.i) r2 z fun x Hi3 H3 e3 r3 => o2 Hi3 H3 e3 x r3
theorem pd_op {op : Operator} {r : R2} {o : Op2} (ho : OpR X (binaryOp op) r) (k : OpK X r o) (ha : PEd X G a f) (hb : PEd X G b g) : PEd X G (.BinOp a op b pos) (eOp o f g) := PE.wk (pe_op ho ha hb) (op2 k)
theorem pd_cmp {op : CmpOp} {r : R2} {o : Op2} (ho : OpR X (compareOp op) r) (k : OpK X r o) (ha : PEd X G a f) (hb : PEd X G b g) (hm : behindInMarks op b = false) : PEd X G (.Compare a [op] [b] pos) (eOp o f g) := PE.wk (pe_cmpR ho ha hb hm) (op2 k)
theorem pd_ix {r : R2} {o : Op2} (ho : IxR X r) (k : OpK X r o) (ha : PEd X G a f) (hb : PEd X G b g) (hs : PlainIx b) : PEd X G (.Subscript a b pos) (eOp o f g) := PE.wk (pe_ix ho ha hb hs) (op2 k)
theorem tst {op : CmpOp} {r : R2} {o : Op2} (ho : OpR X (compareOp op) r) (k : OpK X r o) (ha : PEd X G a f) (hb : PEd X G b g) (hm : behindInMarks op b = false) : PTd X G (.Compare a [op] [b] pos) (tVal (eOp o f g)) :=
  PT.wk (pt_cmpR ho ha hb hm) fun σ H Q q => by
    obtain ⟨ρ, Hi, R, ou⟩ := q
    refine op2 k σ H _ ⟨ρ, Hi, R, ou.bind.imp fun d Hi' H' e o v r => ?_⟩
    cases d with
    | bl c => rw [r.blI]; exact ⟨c, rfl, o.here e.s⟩
    | _ => exact o.elim
theorem pt_v (h : PEd X G a f) (he : ∀ whole, isTrue a X.env whole = (do let v ← whole; standAt a.pos; holding [v] (truthy v)) := by intro _; rfl) : PTd X G a (tVal f) := PT.wk (pt_val h he) fun σ H Q q => by
  obtain ⟨ρ, Hi, R, ou⟩ := q
  refine ⟨ρ, Hi, R, ou.bind.imp fun d Hi' H' e o v r => ?_⟩
  cases d with
  | bl c => rw [r.blI]; exact ⟨c, rfl, o.here e.s⟩
  | _ => exact o.elim
variable {t u : Tv}
/-- a test and what comes of it -/
theorem outT {Hi H : Hp} {σ : St} {ρ : Rho} {β : Type} {k : Bool → Res β} {k' : β → Hp → Hp → Prop} {Q : Bool → Hp → Prop} (R : RelX X G Hi H σ ρ) (o : Out G Hi H ((t ρ).bind k) k')
    (w : ∀ c Hi' H', Ext Hi H Hi' H' → RelX X G Hi' H' σ ρ → Out G Hi' H' (k c) k' → Q c H') : tTb X G t σ H Q :=
  ⟨ρ, Hi, R, o.bind.imp fun d Hi' H' e q => w d Hi' H' e (R.grow e) q⟩
theorem pt_n (h : PTd X G a t) : PTd X G (.UnaryOp .Not a pos) (tNotB t) := PT.wk (pt_not h) fun σ H Q q => by
  obtain ⟨ρ, Hi, R, ou⟩ := q
  exact outT R ou fun c Hi1 H1 e1 R1 o1 => o1.here R1.s
theorem w_and1 (h : PTd X G a t) : PWd X G (.BoolOp .And [a] pos) t := pw_and1 h
theorem w_or1 (h : PTd X G a t) : PWd X G (.BoolOp .Or [a] pos) t := pw_or1 h
theorem w_and {rest : List Expr} (ha : PTd X G a t) (hb : PWd X G (.BoolOp .And (b :: rest) pos) u) : PWd X G (.BoolOp .And (a :: b :: rest) pos) (tAndB t u) := PW.wk (pw_and ha hb) fun σ H Q q => by
  obtain ⟨ρ, Hi, R, ou⟩ := q
  refine outT R ou fun c Hi1 H1 e1 R1 o1 => ?_
  cases c with
  | true => exact ⟨ρ, Hi1, R1, o1⟩
  | false => exact o1.here R1.s
theorem w_or {rest : List Expr} (ha : PTd X G a t) (hb : PWd X G (.BoolOp .Or (b :: rest) pos) u) : PWd X G (.BoolOp .Or (a :: b :: rest) pos) (tOrB t u) := PW.wk (pw_or ha hb) fun σ H Q q => by
  obtain ⟨ρ, Hi, R, ou⟩ := q
  refine outT R ou fun c Hi1 H1 e1 R1 o1 => ?_
  cases c with
  | true => exact o1.here R1.s
  | false => exact ⟨ρ, Hi1, R1, o1⟩
theorem PWd.pt {e : Expr} (h : PWd X G e t) : PTd X G e t := PW.pt h
theorem pd_one {op} (h : PEd X G a f) : PEd X G (.BoolOp op [a] pos) f := pe_one h
theorem pd_and {rest : List Expr} (ha : PEd X G a f) (hb : PEd X G (.BoolOp .And (b :: rest) pos) g) : PEd X G (.BoolOp .And (a :: b :: rest) pos) (eAnd f g) := PE.wk (pe_and ha hb) fun σ H Q q => by
  obtain ⟨ρ, Hi, R, ou⟩ := q
  refine out2 R ou fun v d Hi1 H1 e1 R1 r1 o1 => ?_
  cases d with
  | bl c =>
    refine ⟨c, r1.blI, ?_⟩
    cases c with
    | true => exact ⟨ρ, Hi1, R1, o1⟩
    | false => exact o1.here R1.s _ (.bl false)
  | _ => exact o1.elim
theorem pd_not (ha : PEd X G a f) : PEd X G (.UnaryOp .Not a pos) (eUn oNot f) := PE.wk (pe_not ha) fun σ H Q q => by
  obtain ⟨ρ, Hi, R, ou⟩ := q
  refine out2 R ou fun v d Hi1 H1 e1 R1 r1 o1 => ?_
  cases d with
  | bl c => exact ⟨c, r1.blI, o1.here R1.s _ (.bl _)⟩
  | _ => exact o1.elim
theorem pd_neg (ha : PEd X G a f) : PEd X G (.UnaryOp .USub a pos) (eUn oNeg f) := PE.wk (pe_un un_neg ha) fun σ H Q q => by
  obtain ⟨ρ, Hi, R, ou⟩ := q
  refine out2 R ou fun v d Hi1 H1 e1 R1 r1 o1 => ?_
  cases d with
  | int c => exact ⟨c, r1.intI, o1.here R1.s _ (.int _)⟩
  | _ => exact o1.elim
theorem pd_if {c : Expr} (hc : PTd X G c t) (ha : PEd X G a f) (hb : PEd X G b g) : PEd X G (.IfExp c a b pos) (eIf t f g) := PE.wk (pe_ifExp hc ha hb) fun σ H Q q => by
  obtain ⟨ρ, Hi, R, ou⟩ := q
  refine outT R ou fun c Hi1 H1 e1 R1 o1 => ?_
  cases c with
  | true => exact ⟨ρ, Hi1, R1, o1⟩
  | false => exact ⟨ρ, Hi1, R1, o1⟩
variable {fs : Fv}
theorem as_nil : PAd X G [] aNil := PA.wk pa_nil fun σ H Q q => by
  obtain ⟨ρ, Hi, R, ou⟩ := q
  exact ou.here R.s [] .nil
theorem as_cons (ha : PEd X G e f) (hr : PAd X G es fs) (hs : starEach (e :: es) X.env = (false, eval e X.env) :: starEach es X.env := by rfl) : PAd X G (e :: es) (aCons f fs) := PA.wk (pa_cons ha hr hs) fun σ H Q q => by
  obtain ⟨ρ, Hi, R, ou⟩ := q
  refine out2 R ou fun v d Hi1 H1 e1 R1 r1 o1 => ?_
  refine ⟨ρ, Hi1, R1, o1.bind.imp fun ds Hi2 H2 e2 o2 vs rs => ?_⟩
  exact o2.here e2.s _ (.cons (r1.mono e2.i) rs)
/-- arguments and what comes of them -/
theorem outA {Hi H : Hp} {σ : St} {ρ : Rho} {β : Type} {k : List D → Res β} {k' : β → Hp → Hp → Prop} {Q : List V → Hp → Prop} (R : RelX X G Hi H σ ρ) (o : Out G Hi H ((fs ρ).bind k) k')
    (w : ∀ vs ds Hi' H', Ext Hi H Hi' H' → RelX X G Hi' H' σ ρ → IsDs X.K Hi' vs ds → Out G Hi' H' (k ds) k' → Q vs H') : tAs X G fs σ H Q :=
  ⟨ρ, Hi, R, o.bind.imp fun d Hi' H' e q v r => w v d Hi' H' e (R.grow e) r q⟩
theorem pd_tup {x1} (h : PAd X G es fs) : PEd X G (.Tuple es x1 pos) (eTup fs) := PE.wk (pe_tup h) fun σ H Q q => by
  obtain ⟨ρ, Hi, R, ou⟩ := q
  refine outA R ou fun vs ds Hi1 H1 e1 R1 r1 o1 => ?_
  by_cases hz : ds.length ≤ 16777216
  · rw [if_pos hz] at o1
    refine ⟨by rw [r1.length]; exact hz, fun p hp => ?_⟩
    exact o1 _ _ (Ext.new R1.s hp) (.ref p) (.tup (SqT.of upd_same) (r1.mono (same_new' (R1.s.none hp) _)))
  · rw [if_neg hz] at o1; exact o1.elim
theorem pf_lst (h : PAd X G es fs) : PEf X G (.List es pos) (fLst fs) := PE.wk (pe_lst h) fun σ H Q q => by
  obtain ⟨ρ, Hi, R, ou⟩ := q
  refine outA R ou fun vs ds Hi1 H1 e1 R1 r1 o1 => ?_
  by_cases hz : ds.length ≤ 16777216
  · rw [if_pos hz] at o1
    refine ⟨by rw [r1.length]; exact hz, fun p hp => ?_⟩
    exact o1 _ _ (Ext.newF R1.s hp) p ⟨e1.h.none hp, R1.s.none hp, vs, upd_same, r1⟩
  · rw [if_neg hz] at o1; exact o1.elim
/-- a new list as a value -/
theorem PEf.d (h : PEf X G e fs) : PEd X G e (eF fs) := PE.wk h fun σ H Q q => by
  obtain ⟨ρ, Hi, R, ou⟩ := q
  refine ⟨ρ, Hi, R, ?_⟩
  cases z : fs ρ with
  | no => unfold eF at ou; rw [z] at ou; exact ou
  | err c => unfold eF at ou; rw [z] at ou; exact ou
  | ok ds =>
    unfold eF at ou; rw [z] at ou
    intro Hi1 H1 e1 a n
    obtain ⟨n1, n2, xs, n3, n4⟩ := n
    have ou' : ∀ Hi' H', Ext Hi H Hi' H' → ∀ v, IsD X.K Hi' v (.lst ds) → Q v H' := ou
    exact ou' _ _ (e1.hold n1 n3 n2) (.ref a) (.lst (SqL.of upd_same) (n4.mono (same_new' n2 _)))
end
end L3

namespace L3
open PySem PySem.Spec PyProof.Rows L2
unseal PEd PEf PTd PWd PAd PSd PSsd
section
variable {X : Cx} {G : Gx} {a b e : Expr} {es : List Expr} {pos : Pos} {f g : Ev} {fs : Fv} {t u : Tv}
/-! ### operations -/
theorem OpR.or {o : Value → Value → Sem Value} {r r' : R2} (h : OpR X o r) (h' : OpR X o r') : OpR X o (fun x y H Q => r x y H Q ∨ r' x y H Q) := by
  intro pins s σ H x y v u Q I rx ry q
  rcases q with q | q
  · exact h pins s σ H x y v u Q I rx ry q
  · exact h' pins s σ H x y v u Q I rx ry q
/-- ints to an int -/
theorem opk_I0 {o : Op2} {h : Int → Int → Int} (hi : ∀ i j, o (.int i) (.int j) = .ok (.int (h i j))) (hn : ∀ a b d, o a b = .ok d → ∃ i j, a = .int i ∧ b = .int j) (he : ∀ a b c, o a b ≠ .err c) : OpK X (rI0 fun i j => .int (h i j)) o :=
  ⟨he, fun Hi H x y a b d Q s r1 r2 z q => by
    obtain ⟨i, j, rfl, rfl⟩ := hn a b d z
    rw [hi] at z; cases z
    exact ⟨i, j, r1.intI, r2.intI, q _ Hi H (Ext.refl s) (.int _)⟩⟩
theorem opk_B0 {o : Op2} {h : Int → Int → Bool} (hi : ∀ i j, o (.int i) (.int j) = .ok (.bl (h i j))) (hn : ∀ a b d, o a b = .ok d → ∃ i j, a = .int i ∧ b = .int j) (he : ∀ a b c, o a b ≠ .err c) : OpK X (rI0 fun i j => .bl (h i j)) o :=
  ⟨he, fun Hi H x y a b d Q s r1 r2 z q => by
    obtain ⟨i, j, rfl, rfl⟩ := hn a b d z
    rw [hi] at z; cases z
    exact ⟨i, j, r1.intI, r2.intI, q _ Hi H (Ext.refl s) (.bl _)⟩⟩
theorem k_sub : OpK X (rI0 fun i j => .int (i - j)) oSub := opk_I0 (fun _ _ => rfl) (fun a b d z => by unfold oSub at z; split at z <;> first | exact ⟨_, _, rfl, rfl⟩ | cases z) (fun a b c z => by unfold oSub at z; split at z <;> cases z)
theorem k_lt : OpK X (rI0 fun i j => .bl (decide (i < j))) oLt := opk_B0 (fun _ _ => rfl) (fun a b d z => by unfold oLt at z; split at z <;> first | exact ⟨_, _, rfl, rfl⟩ | cases z) (fun a b c z => by unfold oLt at z; split at z <;> cases z)
theorem k_gt : OpK X (rI0 fun i j => .bl (decide (j < i))) oGt := opk_B0 (fun _ _ => rfl) (fun a b d z => by unfold oGt at z; split at z <;> first | exact ⟨_, _, rfl, rfl⟩ | cases z) (fun a b c z => by unfold oGt at z; split at z <;> cases z)
/-- ints, guarded -/
theorem opk_I {o : Op2} {C : Int → Int → Prop} {h : Int → Int → Int} (hn : ∀ a b d, o a b = .ok d → ∃ i j, a = .int i ∧ b = .int j ∧ C i j ∧ d = .int (h i j)) (he : ∀ a b c, o a b ≠ .err c) : OpK X (rI C fun i j => .int (h i j)) o :=
  ⟨he, fun Hi H x y a b d Q s r1 r2 z q => by
    obtain ⟨i, j, rfl, rfl, hc, rfl⟩ := hn a b d z
    exact ⟨i, j, r1.intI, r2.intI, hc, q _ Hi H (Ext.refl s) (.int _)⟩⟩
noncomputable def CDivA (_ j : Int) : Prop := okDiv j = true
theorem op_divA : OpR X (binaryOp .FloorDiv) (rI CDivA fun i j => .int (i.fdiv j)) := opI fun i j _ _ _ _ _ hc q => by
  have hc' : okDiv j = true := hc
  unfold okDiv at hc'
  simp only [Bool.and_eq_true, decide_eq_true_eq] at hc'
  refine floordiv_int hc'.1 q (.inl (PyProof.noPylong_of_log2 ?_))
  have h2 := hc'.2
  unfold nb at h2
  omega
noncomputable def CPowA (i j : Int) : Prop := okPow i j = true
theorem op_powA : OpR X (binaryOp .Pow) (rI CPowA fun i j => .int (i ^ j.toNat)) := opI fun i j _ _ _ _ _ hc q => by
  have hc' : okPow i j = true := hc
  unfold okPow at hc'
  simp only [Bool.and_eq_true, decide_eq_true_eq] at hc'
  refine pow_int hc'.1 (Int.le_trans (Int.mul_le_mul_of_nonneg_right ?_ hc'.1) hc'.2) q
  have := PySem.intBits_le_iff.mpr (lt_nb i)
  omega
theorem k_div : OpK X (rI CDivA fun i j => .int (i.fdiv j)) oDiv := opk_I (fun a b d z => by
  unfold oDiv at z
  split at z
  case h_2 => cases z
  rename_i i j
  have z' : (if okDiv j = true then Res.ok (D.int (i.fdiv j)) else .no) = .ok d := z
  by_cases h : okDiv j = true
  · rw [if_pos h] at z'; cases z'; exact ⟨i, j, rfl, rfl, h, rfl⟩
  · rw [if_neg h] at z'; cases z') (fun a b c z => by
  unfold oDiv at z
  split at z
  case h_2 => cases z
  rename_i i j
  have z' : (if okDiv j = true then Res.ok (D.int (i.fdiv j)) else .no) = .err c := z
  by_cases h : okDiv j = true
  · rw [if_pos h] at z'; cases z'
  · rw [if_neg h] at z'; cases z')
theorem k_mod : OpK X (rI (fun _ j => j ≠ 0) fun i j => .int (i.fmod j)) oMod := opk_I (fun a b d z => by
  unfold oMod at z
  split at z
  case h_2 => cases z
  rename_i i j
  have z' : (if j ≠ 0 then Res.ok (D.int (i.fmod j)) else .no) = .ok d := z
  by_cases h : j ≠ 0
  · rw [if_pos h] at z'; cases z'; exact ⟨i, j, rfl, rfl, h, rfl⟩
  · rw [if_neg h] at z'; cases z') (fun a b c z => by
  unfold oMod at z
  split at z
  case h_2 => cases z
  rename_i i j
  have z' : (if j ≠ 0 then Res.ok (D.int (i.fmod j)) else .no) = .err c := z
  by_cases h : j ≠ 0
  · rw [if_pos h] at z'; cases z'
  · rw [if_neg h] at z'; cases z')
theorem k_pow : OpK X (rI CPowA fun i j => .int (i ^ j.toNat)) oPow := opk_I (fun a b d z => by
  unfold oPow at z
  split at z
  case h_2 => cases z
  rename_i i j
  have z' : (if okPow i j = true then Res.ok (D.int (i ^ j.toNat)) else .no) = .ok d := z
  by_cases h : okPow i j = true
  · rw [if_pos h] at z'; cases z'; exact ⟨i, j, rfl, rfl, h, rfl⟩
  · rw [if_neg h] at z'; cases z') (fun a b c z => by
  unfold oPow at z
  split at z
  case h_2 => cases z
  rename_i i j
  have z' : (if okPow i j = true then Res.ok (D.int (i ^ j.toNat)) else .no) = .err c := z
  by_cases h : okPow i j = true
  · rw [if_pos h] at z'; cases z'
  · rw [if_neg h] at z'; cases z')
/-- () + t is t -/
noncomputable def rCat0 (K : PySem.W.Frag) : R2 := fun x y H Q => ∃ a b ys, x = .ref a ∧ y = .ref b ∧ SqT K H a [] ∧ SqT K H b ys ∧ Q (.ref b) H
theorem op_cat0 : OpR X (binaryOp .Add) (rCat0 X.K) := by
  intro pins s σ H x y v u Q I rx ry h
  obtain ⟨a, b, ys, rfl, rfl, ha, hb, q⟩ := h
  cases rx
  cases ry
  obtain ⟨its, r1, p1, _⟩ := I.tuple ha
  obtain ⟨its2, r2, p2, _⟩ := I.tuple hb
  cases r1
  obtain ⟨⟨c1, d1, t1, s1⟩, ho1, hc1, n1, hd1⟩ := id p1
  obtain ⟨⟨c2, d2, t2, s2⟩, ho2, hc2, n2, hd2⟩ := id p2
  simp only at hc1 hd1 hc2 hd2
  subst hc1 hd1 hc2 hd2
  exact concat_meets ⟨_, ho1, rfl⟩ ⟨_, ho2, rfl⟩ noFill_tuple_add seq_tuple_add PySem.F.slot_tuple_add PySem.F.entry_tuple_add (PySem.F.args_tuple_add_2 _ _) (tuple_addW0 a b #[] its2.toArray n1 n2 d1 d2 s1 s2 rfl) ⟨ho1, ho2, ⟨.ref b, H, I, rfl, q⟩⟩
/-- + : ints, tuples -/
noncomputable def rAddA (K : PySem.W.Frag) : R2 := fun x y H Q => rI0 (fun i j => .int (i + j)) x y H Q ∨ (rCatT K x y H Q ∨ rCat0 K x y H Q)
theorem op_addA : OpR X (binaryOp .Add) (rAddA X.K) := OpR.or op_add (OpR.or op_catT op_cat0)
theorem k_add : OpK X (rAddA X.K) oAdd := ⟨fun a b c z => (by
    unfold oAdd at z
    split at z
    case h_1 => cases z
    case h_3 => cases z
    rename_i as bs
    have z' : (if as.length + bs.length ≤ 16777216 then Res.ok (D.tup (as ++ bs)) else .no) = .err c := z
    split at z' <;> cases z'), fun Hi H x y a b d Q s r1 r2 z q => by
    unfold oAdd at z
    split at z
    case h_3 => cases z
    · cases z
      exact .inl ⟨_, _, r1.intI, r2.intI, q _ Hi H (Ext.refl s) (.int _)⟩
    · rename_i as bs
      have z' : (if as.length + bs.length ≤ 16777216 then Res.ok (D.tup (as ++ bs)) else .no) = .ok d := z
      split at z'
      · rename_i hz
        cases z'
        obtain ⟨p, xs, rfl, h1, i1⟩ := r1.tupI
        obtain ⟨p', ys, rfl, h2, i2⟩ := r2.tupI
        by_cases h0 : as.length = 0
        · have e0 : as = [] := List.eq_nil_of_length_eq_zero h0
          subst e0
          cases i1
          exact .inr (.inr ⟨p, p', ys, rfl, rfl, sqT_mono s h1, sqT_mono s h2, q _ Hi H (Ext.refl s) (.tup h2 i2)⟩)
        refine .inr (.inl ⟨p, p', xs, ys, rfl, rfl, sqT_mono s h1, sqT_mono s h2, fun e => h0 (by rw [← i1.length, e]; rfl), by rw [i1.length, i2.length]; exact hz, fun e => ?_, fun _ l hl => ?_⟩)
        · subst e
          cases i2
          rw [List.append_nil] at q
          exact q _ Hi H (Ext.refl s) (.tup h1 i1)
        · exact q _ _ _ (Ext.new s hl) (.tup (SqT.of upd_same) ((i1.append i2).mono (same_new' (s.none hl) _)))
      · cases z'⟩
/-! ### items -/
theorem atI_neg {α : Type} {xs : List α} {i : Int} {v : α} (h0 : i < 0) (h1 : 0 ≤ (xs.length : Int) + i) (h : xs[((xs.length : Int) + i).toNat]? = some v) : atI xs i = some v := by
  have e : ixN xs.length i = some ((xs.length : Int) + i).toNat := by
    unfold ixN
    rw [if_neg (by omega), if_pos (by omega)]
    congr 2
    omega
  unfold atI; rw [e]; exact h
theorem atI_atD {K : PySem.W.Frag} {H : Hp} {xs : List V} {ds : List D} {i : Int} {d : D} (h : IsDs K H xs ds) (e : atD ds i = some d) : ∃ v, atI xs i = some v ∧ IsD K H v d := by
  unfold atD at e
  by_cases h0 : 0 ≤ i
  · rw [if_pos h0] at e
    obtain ⟨v, hv, r⟩ := h.at e
    refine ⟨v, ?_, r⟩
    have := atI_nat hv
    rw [show ((i.toNat : Nat) : Int) = i by omega] at this
    exact this
  · rw [if_neg h0] at e
    by_cases h1 : 0 ≤ (ds.length : Int) + i
    · rw [if_pos h1] at e
      obtain ⟨v, hv, r⟩ := h.at e
      refine ⟨v, ?_, r⟩
      have hl := h.length
      have e2 : ((ds.length : Int) + i).toNat = ((xs.length : Int) + i).toNat := by rw [hl]
      rw [e2] at hv
      exact atI_neg (by omega) (by omega) hv
    · rw [if_neg h1] at e; cases e
theorem k_ix : OpK X (fun x y H Q => rIxL X.K x y H Q ∨ rIxT X.K x y H Q) oIx := ⟨fun a b c z => (by
    unfold oIx at z
    split at z
    case h_3 => cases z
    · rename_i ds i
      have z' : ofO (atD ds i) = Res.err c := z
      cases q : atD ds i <;> rw [q] at z' <;> cases z'
    · rename_i ds i
      have z' : ofO (atD ds i) = Res.err c := z
      cases q : atD ds i <;> rw [q] at z' <;> cases z'), fun Hi H x y a b d Q s r1 r2 z q => by
    unfold oIx at z
    split at z
    case h_3 => cases z
    · rename_i ds i
      have z' : ofO (atD ds i) = Res.ok d := z
      cases w : atD ds i with
      | none => rw [w] at z'; cases z'
      | some d' =>
        rw [w] at z'; cases z'
        obtain ⟨p, xs, rfl, h1, i1⟩ := r1.tupI
        obtain ⟨v, hv, r⟩ := atI_atD i1 w
        exact .inr ⟨p, xs, i, v, rfl, r2.intI, sqT_mono s h1, hv, q v Hi H (Ext.refl s) r⟩
    · rename_i ds i
      have z' : ofO (atD ds i) = Res.ok d := z
      cases w : atD ds i with
      | none => rw [w] at z'; cases z'
      | some d' =>
        rw [w] at z'; cases z'
        obtain ⟨p, xs, rfl, h1, i1⟩ := r1.lstI
        obtain ⟨v, hv, r⟩ := atI_atD i1 w
        exact .inl ⟨p, xs, i, v, rfl, r2.intI, sqL_mono s h1, hv, q v Hi H (Ext.refl s) r⟩⟩
theorem ix_both : IxR X (fun x y H Q => rIxL X.K x y H Q ∨ rIxT X.K x y H Q) := ix_list.or ix_tup
end
end L3

namespace L3
open PySem PySem.Spec PyProof.Rows L2
unseal PEd PEf PTd PWd PAd PSd PSsd
/-! ### == -/
section
variable {X : Cx} {pins : List (Addr × Obj)} {σ : St} {H : Hp} {s : Shared}
mutual
theorem IsD.inj (I : Inv X pins σ H s) : ∀ {v : V} {d e : D}, IsD X.K H v d → IsD X.K H v e → d = e
  | _, _, _, .non, h => by cases h; rfl
  | _, _, _, .bl b, h => by cases h; rfl
  | _, _, _, .int i, h => by cases h; rfl
  | _, _, _, .str x, h => by cases h; rfl
  | _, _, _, .tup h hs, h2 => by
    cases h2 with
    | tup h' hs' =>
      have e := I.tuple_inj h h'
      subst e
      rw [IsDs.inj I hs hs']
    | lst h' hs' =>
      exfalso
      obtain ⟨_, _, ⟨o, e, c, _⟩, _⟩ := I.tuple h
      obtain ⟨_, _, ⟨o', n', e', c', _⟩, _⟩ := I.list h'
      rw [e] at e'; cases e'; rw [c] at c'; exact absurd c' (by decide)
  | _, _, _, .lst h hs, h2 => by
    cases h2 with
    | lst h' hs' =>
      have e := I.list_inj h h'
      subst e
      rw [IsDs.inj I hs hs']
    | tup h' hs' =>
      exfalso
      obtain ⟨_, _, ⟨o, e, c, _⟩, _⟩ := I.tuple h'
      obtain ⟨_, _, ⟨o', n', e', c', _⟩, _⟩ := I.list h
      rw [e] at e'; cases e'; rw [c] at c'; exact absurd c' (by decide)
theorem IsDs.inj (I : Inv X pins σ H s) : ∀ {vs : List V} {ds es : List D}, IsDs X.K H vs ds → IsDs X.K H vs es → ds = es
  | _, _, _, .nil, h => by cases h; rfl
  | _, _, _, .cons h hs, h2 => by
    cases h2 with
    | cons h' hs' => rw [IsD.inj I h h', IsDs.inj I hs hs']
end
theorem getD_of {α : Type} {l : List α} {j : Nat} {x d : α} (h : l[j]? = some x) : l.getD j d = x := by
  rw [List.getD_eq_getElem?_getD, h]; rfl
theorem items_eq {A : Around} {xs xs' : List V} {ds ds' : List D} {its its' : List Value} (hs : IsDs X.K H xs ds) (hs' : IsDs X.K H xs' ds') (rv : Vals xs its) (rv' : Vals xs' its')
    (rc : ∀ (d d' : D) (v v' : V) (u u' : Value), d ∈ ds → IsD X.K H v d → IsD X.K H v' d' → RelV v u → RelV v' u' → SeqAt.EqAt A s u u' (eqD d d'))
    (j : Nat) (g1 : j < its.toArray.size) (g2 : j < its'.toArray.size) : SeqAt.EqAt A s its.toArray[j] its'.toArray[j] (eqD (ds.getD j .non) (ds'.getD j .non)) := by
  have g1' : j < its.length := by simpa using g1
  have g2' : j < its'.length := by simpa using g2
  have l1 : its.length = ds.length := by rw [← rv.length, hs.length]
  have l2 : its'.length = ds'.length := by rw [← rv'.length, hs'.length]
  obtain ⟨d, hd⟩ : ∃ d, ds[j]? = some d := ⟨_, List.getElem?_eq_getElem (by omega)⟩
  obtain ⟨d', hd'⟩ : ∃ d, ds'[j]? = some d := ⟨_, List.getElem?_eq_getElem (by omega)⟩
  obtain ⟨v, hv, iv⟩ := hs.at hd
  obtain ⟨v', hv', iv'⟩ := hs'.at hd'
  obtain ⟨w1, hw, rw1⟩ := rv.get hv
  obtain ⟨w2, hw', rw2⟩ := rv'.get hv'
  have e1 : its.toArray[j] = w1 := by
    rw [List.getElem?_eq_getElem g1'] at hw
    simpa using hw
  have e2 : its'.toArray[j] = w2 := by
    rw [List.getElem?_eq_getElem g2'] at hw'
    simpa using hw'
  rw [e1, e2, getD_of hd, getD_of hd']
  exact rc d d' v v' w1 w2 (List.mem_of_getElem? hd) iv iv' rw1 rw2
theorem all_range_lists {ds ds' : List D} (h : ds.length = ds'.length) : ((List.range ds.length).all fun j => eqD (ds.getD j .non) (ds'.getD j .non)) = eqDs ds ds' := by
  rw [eqDs_iff, ← h, Nat.min_self]; simp
theorem eqDs_len {ds ds' : List D} (h : ds.length ≠ ds'.length) : eqDs ds ds' = false := by
  rw [eqDs_iff]; simp [h]
/-- one step of ==, by the kinds; what is below by rc -/
theorem eqAt_step (I : Inv X pins σ H s) {A : Around} {v v' : V} {d d' : D} {u u' : Value} (h1 : IsD X.K H v d) (h2 : IsD X.K H v' d') (r1 : RelV v u) (r2 : RelV v' u') (hu : A.units < cLine)
    (rc : ∀ ds, (d = .tup ds ∨ d = .lst ds) → ∀ (e e' : D) (w w' : V) (z z' : Value), e ∈ ds → IsD X.K H w e → IsD X.K H w' e' → RelV w z → RelV w' z' → SeqAt.EqAt A.in1 s z z' (eqD e e')) :
    SeqAt.EqAt A s u u' (eqD d d') := by
  cases h1 with
  | non =>
    cases (show u = Value.none from r1)
    cases h2 with
    | non => cases (show u' = Value.none from r2); exact SeqAt.EqAt.same _
    | bl b => cases (show u' = Value.bool _ from r2); exact SeqAt.EqAt.none_bool _
    | int i => obtain ⟨t, rfl⟩ := r2; exact SeqAt.EqAt.none_int _ _
    | str x => obtain ⟨t, rfl⟩ := r2; exact SeqAt.EqAt.none_str _ _
    | tup h hs => cases (show u' = Value.ref _ from r2); obtain ⟨its, rv, p, hz⟩ := I.tuple h; exact SeqAt.EqAt.none_tuple (show s.heap.IsTuple _ its.toArray from p) hu
    | lst h hs => cases (show u' = Value.ref _ from r2); obtain ⟨its, rv, p, hz⟩ := I.list h; exact SeqAt.EqAt.none_list p.isList hu
  | bl b =>
    cases (show u = Value.bool _ from r1)
    cases h2 with
    | non => cases (show u' = Value.none from r2); exact SeqAt.EqAt.bool_none _
    | bl b => cases (show u' = Value.bool _ from r2); exact SeqAt.EqAt.bool_bool _ _
    | int i => obtain ⟨t, rfl⟩ := r2; exact SeqAt.EqAt.bool_int _ _ _
    | str x => obtain ⟨t, rfl⟩ := r2; exact SeqAt.EqAt.bool_str _ _ _
    | tup h hs => cases (show u' = Value.ref _ from r2); obtain ⟨its, rv, p, hz⟩ := I.tuple h; exact SeqAt.EqAt.bool_tuple _ (show s.heap.IsTuple _ its.toArray from p) hu
    | lst h hs => cases (show u' = Value.ref _ from r2); obtain ⟨its, rv, p, hz⟩ := I.list h; exact SeqAt.EqAt.bool_list _ p.isList hu
  | int i =>
    obtain ⟨t, rfl⟩ := r1
    cases h2 with
    | non => cases (show u' = Value.none from r2); exact SeqAt.EqAt.int_none _ _
    | bl b => cases (show u' = Value.bool _ from r2); exact SeqAt.EqAt.int_bool _ _ _
    | int i => obtain ⟨t, rfl⟩ := r2; exact SeqAt.EqAt.int_int _ _ _ _
    | str x => obtain ⟨t, rfl⟩ := r2; exact SeqAt.EqAt.int_str _ _ _ _
    | tup h hs => cases (show u' = Value.ref _ from r2); obtain ⟨its, rv, p, hz⟩ := I.tuple h; exact SeqAt.EqAt.int_tuple _ _ (show s.heap.IsTuple _ its.toArray from p) hu
    | lst h hs => cases (show u' = Value.ref _ from r2); obtain ⟨its, rv, p, hz⟩ := I.list h; exact SeqAt.EqAt.int_list _ _ p.isList hu
  | str x =>
    obtain ⟨t, rfl⟩ := r1
    cases h2 with
    | non => cases (show u' = Value.none from r2); exact SeqAt.EqAt.str_none _ _
    | bl b => cases (show u' = Value.bool _ from r2); exact SeqAt.EqAt.str_bool _ _ _
    | int i => obtain ⟨t, rfl⟩ := r2; exact SeqAt.EqAt.str_int _ _ _ _
    | str x => obtain ⟨t, rfl⟩ := r2; exact SeqAt.EqAt.str_str _ _ _ _
    | tup h hs => cases (show u' = Value.ref _ from r2); obtain ⟨its, rv, p, hz⟩ := I.tuple h; exact SeqAt.EqAt.str_tuple _ _ (show s.heap.IsTuple _ its.toArray from p) hu
    | lst h hs => cases (show u' = Value.ref _ from r2); obtain ⟨its, rv, p, hz⟩ := I.list h; exact SeqAt.EqAt.str_list _ _ p.isList hu
  | @tup a xs ds h hs =>
    cases (show u = Value.ref a from r1)
    obtain ⟨its, rv, p, hz⟩ := I.tuple h
    cases h2 with
    | non => cases (show u' = Value.none from r2); exact SeqAt.EqAt.tuple_none (show s.heap.IsTuple _ its.toArray from p) hu
    | bl b => cases (show u' = Value.bool _ from r2); exact SeqAt.EqAt.tuple_bool _ (show s.heap.IsTuple _ its.toArray from p) hu
    | int i => obtain ⟨t, rfl⟩ := r2; exact SeqAt.EqAt.tuple_int _ _ (show s.heap.IsTuple _ its.toArray from p) hu
    | str x => obtain ⟨t, rfl⟩ := r2; exact SeqAt.EqAt.tuple_str _ _ (show s.heap.IsTuple _ its.toArray from p) hu
    | @tup a' xs' ds' h' hs' =>
      cases (show u' = Value.ref a' from r2)
      by_cases e : a = a'
      · subst e
        have e := I.tuple_inj h h'
        subst e
        have e := IsDs.inj I hs hs'
        subst e
        rw [eqD_refl]
        exact SeqAt.EqAt.same _
      · obtain ⟨its', rv', p', hz'⟩ := I.tuple h'
        have l1 : its.toArray.size = ds.length := by rw [List.size_toArray, ← rv.length, hs.length]
        have l2 : its'.toArray.size = ds'.length := by rw [List.size_toArray, ← rv'.length, hs'.length]
        have key := SeqAt.RcAt.tuples (A := A) (s := s) (show s.heap.IsTuple a its.toArray from p) (show s.heap.IsTuple a' its'.toArray from p') hu
          (items_eq (A := A.in1) (s := s) hs hs' rv rv' fun d d' v v' u u' hm iv iv' r r' => rc ds (.inl rfl) d d' v v' u u' hm iv iv' r r')
        rw [l1, l2, ← eqDs_iff] at key
        exact SeqAt.EqAt.of_refs e key
    | @lst a' xs' ds' h' hs' =>
      cases (show u' = Value.ref a' from r2)
      obtain ⟨its', rv', p', hz'⟩ := I.list h'
      exact SeqAt.EqAt.tuple_list (show s.heap.IsTuple _ its.toArray from p) p'.isList hu
  | @lst a xs ds h hs =>
    cases (show u = Value.ref a from r1)
    obtain ⟨its, rv, p, hz⟩ := I.list h
    cases h2 with
    | non => cases (show u' = Value.none from r2); exact SeqAt.EqAt.list_none p.isList hu
    | bl b => cases (show u' = Value.bool _ from r2); exact SeqAt.EqAt.list_bool _ p.isList hu
    | int i => obtain ⟨t, rfl⟩ := r2; exact SeqAt.EqAt.list_int _ _ p.isList hu
    | str x => obtain ⟨t, rfl⟩ := r2; exact SeqAt.EqAt.list_str _ _ p.isList hu
    | @tup a' xs' ds' h' hs' =>
      cases (show u' = Value.ref a' from r2)
      obtain ⟨its', rv', p', hz'⟩ := I.tuple h'
      exact SeqAt.EqAt.list_tuple p.isList (show s.heap.IsTuple _ its'.toArray from p') hu
    | @lst a' xs' ds' h' hs' =>
      cases (show u' = Value.ref a' from r2)
      by_cases e : a = a'
      · subst e
        have e := I.list_inj h h'
        subst e
        have e := IsDs.inj I hs hs'
        subst e
        rw [eqD_refl]
        exact SeqAt.EqAt.same _
      · obtain ⟨its', rv', p', hz'⟩ := I.list h'
        have l1 : its.toArray.size = ds.length := by rw [List.size_toArray, ← rv.length, hs.length]
        have l2 : its'.toArray.size = ds'.length := by rw [List.size_toArray, ← rv'.length, hs'.length]
        by_cases hl : ds.length = ds'.length
        · have key := SeqAt.RcAt.lists (A := A) (s := s) p.isList p'.isList (by rw [l1, l2, hl]) hu
            (items_eq (A := A.in1) (s := s) hs hs' rv rv' fun d d' v v' u u' hm iv iv' r r' => rc ds (.inr rfl) d d' v v' u u' hm iv iv' r r')
          rw [l1, all_range_lists hl] at key
          exact SeqAt.EqAt.of_refs e key
        · have key := SeqAt.RcAt.lists_lengths (A := A) (s := s) p.isList p'.isList (by rw [l1, l2]; simp [hl]) hu
          rw [eqD, eqDs_len hl]
          exact SeqAt.EqAt.of_refs e key
theorem eqAt_D (I : Inv X pins σ H s) (n : Nat) : ∀ {v v' : V} {d d' : D}, dep d ≤ n → IsD X.K H v d → IsD X.K H v' d' →
    ∀ (A : Around) (u u' : Value), A.units + n < cLine → RelV v u → RelV v' u' → SeqAt.EqAt A s u u' (eqD d d') := by
  induction n with
  | zero =>
    intro v v' d d' hn h1 h2 A u u' hu r1 r2
    refine eqAt_step I h1 h2 r1 r2 (by omega) fun ds hd => ?_
    rcases hd with rfl | rfl <;> (rw [dep] at hn; omega)
  | succ n ih =>
    intro v v' d d' hn h1 h2 A u u' hu r1 r2
    refine eqAt_step I h1 h2 r1 r2 (by omega) fun ds hd e e' w w' z z' hm i1 i2 q1 q2 => ?_
    refine ih ?_ i1 i2 A.in1 z z' (by show A.units + 1 + n < cLine; omega) q1 q2
    have := dep_mem hm
    rcases hd with rfl | rfl <;> (rw [dep] at hn; omega)
/-- one step of ==, by the kinds; what is below by rc -/
theorem rcAt_step (I : Inv X pins σ H s) {A : Around} {v v' : V} {d d' : D} {u u' : Value} (h1 : IsD X.K H v d) (h2 : IsD X.K H v' d') (r1 : RelV v u) (r2 : RelV v' u') (hu : A.units < cLine)
    (rc : ∀ ds, (d = .tup ds ∨ d = .lst ds) → ∀ (e e' : D) (w w' : V) (z z' : Value), e ∈ ds → IsD X.K H w e → IsD X.K H w' e' → RelV w z → RelV w' z' → SeqAt.EqAt A.in1 s z z' (eqD e e')) :
    SeqAt.RcAt A s u u' (eqD d d') := by
  cases h1 with
  | non =>
    cases (show u = Value.none from r1)
    cases h2 with
    | non => cases (show u' = Value.none from r2); exact SeqAt.RcAt.none_none
    | bl b => cases (show u' = Value.bool _ from r2); exact SeqAt.RcAt.none_bool _
    | int i => obtain ⟨t, rfl⟩ := r2; exact SeqAt.RcAt.none_int _ _
    | str x => obtain ⟨t, rfl⟩ := r2; exact SeqAt.RcAt.none_str _ _
    | tup h hs => cases (show u' = Value.ref _ from r2); obtain ⟨its, rv, p, hz⟩ := I.tuple h; exact SeqAt.RcAt.none_tuple (show s.heap.IsTuple _ its.toArray from p) hu
    | lst h hs => cases (show u' = Value.ref _ from r2); obtain ⟨its, rv, p, hz⟩ := I.list h; exact SeqAt.RcAt.none_list p.isList hu
  | bl b =>
    cases (show u = Value.bool _ from r1)
    cases h2 with
    | non => cases (show u' = Value.none from r2); exact SeqAt.RcAt.bool_none _
    | bl b => cases (show u' = Value.bool _ from r2); exact SeqAt.RcAt.bool_bool _ _
    | int i => obtain ⟨t, rfl⟩ := r2; exact SeqAt.RcAt.bool_int _ _ _
    | str x => obtain ⟨t, rfl⟩ := r2; exact SeqAt.RcAt.bool_str _ _ _
    | tup h hs => cases (show u' = Value.ref _ from r2); obtain ⟨its, rv, p, hz⟩ := I.tuple h; exact SeqAt.RcAt.bool_tuple _ (show s.heap.IsTuple _ its.toArray from p) hu
    | lst h hs => cases (show u' = Value.ref _ from r2); obtain ⟨its, rv, p, hz⟩ := I.list h; exact SeqAt.RcAt.bool_list _ p.isList hu
  | int i =>
    obtain ⟨t, rfl⟩ := r1
    cases h2 with
    | non => cases (show u' = Value.none from r2); exact SeqAt.RcAt.int_none _ _
    | bl b => cases (show u' = Value.bool _ from r2); exact SeqAt.RcAt.int_bool _ _ _
    | int i => obtain ⟨t, rfl⟩ := r2; exact SeqAt.RcAt.int_int _ _ _ _
    | str x => obtain ⟨t, rfl⟩ := r2; exact SeqAt.RcAt.int_str _ _ _ _
    | tup h hs => cases (show u' = Value.ref _ from r2); obtain ⟨its, rv, p, hz⟩ := I.tuple h; exact SeqAt.RcAt.int_tuple _ _ (show s.heap.IsTuple _ its.toArray from p) hu
    | lst h hs => cases (show u' = Value.ref _ from r2); obtain ⟨its, rv, p, hz⟩ := I.list h; exact SeqAt.RcAt.int_list _ _ p.isList hu
  | str x =>
    obtain ⟨t, rfl⟩ := r1
    cases h2 with
    | non => cases (show u' = Value.none from r2); exact SeqAt.RcAt.str_none _ _
    | bl b => cases (show u' = Value.bool _ from r2); exact SeqAt.RcAt.str_bool _ _ _
    | int i => obtain ⟨t, rfl⟩ := r2; exact SeqAt.RcAt.str_int _ _ _ _
    | str x => obtain ⟨t, rfl⟩ := r2; exact SeqAt.RcAt.str_str _ _ _ _
    | tup h hs => cases (show u' = Value.ref _ from r2); obtain ⟨its, rv, p, hz⟩ := I.tuple h; exact SeqAt.RcAt.str_tuple _ _ (show s.heap.IsTuple _ its.toArray from p) hu
    | lst h hs => cases (show u' = Value.ref _ from r2); obtain ⟨its, rv, p, hz⟩ := I.list h; exact SeqAt.RcAt.str_list _ _ p.isList hu
  | @tup a xs ds h hs =>
    cases (show u = Value.ref a from r1)
    obtain ⟨its, rv, p, hz⟩ := I.tuple h
    cases h2 with
    | non => cases (show u' = Value.none from r2); exact SeqAt.RcAt.tuple_none (show s.heap.IsTuple _ its.toArray from p) hu
    | bl b => cases (show u' = Value.bool _ from r2); exact SeqAt.RcAt.tuple_bool _ (show s.heap.IsTuple _ its.toArray from p) hu
    | int i => obtain ⟨t, rfl⟩ := r2; exact SeqAt.RcAt.tuple_int _ _ (show s.heap.IsTuple _ its.toArray from p) hu
    | str x => obtain ⟨t, rfl⟩ := r2; exact SeqAt.RcAt.tuple_str _ _ (show s.heap.IsTuple _ its.toArray from p) hu
    | @tup a' xs' ds' h' hs' =>
      cases (show u' = Value.ref a' from r2)
      · obtain ⟨its', rv', p', hz'⟩ := I.tuple h'
        have l1 : its.toArray.size = ds.length := by rw [List.size_toArray, ← rv.length, hs.length]
        have l2 : its'.toArray.size = ds'.length := by rw [List.size_toArray, ← rv'.length, hs'.length]
        have key := SeqAt.RcAt.tuples (A := A) (s := s) (show s.heap.IsTuple a its.toArray from p) (show s.heap.IsTuple a' its'.toArray from p') hu
          (items_eq (A := A.in1) (s := s) hs hs' rv rv' fun d d' v v' u u' hm iv iv' r r' => rc ds (.inl rfl) d d' v v' u u' hm iv iv' r r')
        rw [l1, l2, ← eqDs_iff] at key
        exact key
    | @lst a' xs' ds' h' hs' =>
      cases (show u' = Value.ref a' from r2)
      obtain ⟨its', rv', p', hz'⟩ := I.list h'
      exact SeqAt.RcAt.tuple_list (show s.heap.IsTuple _ its.toArray from p) p'.isList hu
  | @lst a xs ds h hs =>
    cases (show u = Value.ref a from r1)
    obtain ⟨its, rv, p, hz⟩ := I.list h
    cases h2 with
    | non => cases (show u' = Value.none from r2); exact SeqAt.RcAt.list_none p.isList hu
    | bl b => cases (show u' = Value.bool _ from r2); exact SeqAt.RcAt.list_bool _ p.isList hu
    | int i => obtain ⟨t, rfl⟩ := r2; exact SeqAt.RcAt.list_int _ _ p.isList hu
    | str x => obtain ⟨t, rfl⟩ := r2; exact SeqAt.RcAt.list_str _ _ p.isList hu
    | @tup a' xs' ds' h' hs' =>
      cases (show u' = Value.ref a' from r2)
      obtain ⟨its', rv', p', hz'⟩ := I.tuple h'
      exact SeqAt.RcAt.list_tuple p.isList (show s.heap.IsTuple _ its'.toArray from p') hu
    | @lst a' xs' ds' h' hs' =>
      cases (show u' = Value.ref a' from r2)
      · obtain ⟨its', rv', p', hz'⟩ := I.list h'
        have l1 : its.toArray.size = ds.length := by rw [List.size_toArray, ← rv.length, hs.length]
        have l2 : its'.toArray.size = ds'.length := by rw [List.size_toArray, ← rv'.length, hs'.length]
        by_cases hl : ds.length = ds'.length
        · have key := SeqAt.RcAt.lists (A := A) (s := s) p.isList p'.isList (by rw [l1, l2, hl]) hu
            (items_eq (A := A.in1) (s := s) hs hs' rv rv' fun d d' v v' u u' hm iv iv' r r' => rc ds (.inr rfl) d d' v v' u u' hm iv iv' r r')
          rw [l1, all_range_lists hl] at key
          exact key
        · have key := SeqAt.RcAt.lists_lengths (A := A) (s := s) p.isList p'.isList (by rw [l1, l2]; simp [hl]) hu
          rw [eqD, eqDs_len hl]
          exact key
/-- one step of ==, by the kinds; what is below by rc -/
theorem rcNe_step (I : Inv X pins σ H s) {A : Around} {v v' : V} {d d' : D} {u u' : Value} (h1 : IsD X.K H v d) (h2 : IsD X.K H v' d') (r1 : RelV v u) (r2 : RelV v' u') (hu : A.units < cLine)
    (rc : ∀ ds, (d = .tup ds ∨ d = .lst ds) → ∀ (e e' : D) (w w' : V) (z z' : Value), e ∈ ds → IsD X.K H w e → IsD X.K H w' e' → RelV w z → RelV w' z' → SeqAt.EqAt A.in1 s z z' (eqD e e')) :
    SeqAt.RcNeAt A s u u' (!eqD d d') := by
  cases h1 with
  | non =>
    cases (show u = Value.none from r1)
    cases h2 with
    | non => cases (show u' = Value.none from r2); exact SeqAt.RcNeAt.none_none
    | bl b => cases (show u' = Value.bool _ from r2); exact SeqAt.RcNeAt.none_bool _
    | int i => obtain ⟨t, rfl⟩ := r2; exact SeqAt.RcNeAt.none_int _ _
    | str x => obtain ⟨t, rfl⟩ := r2; exact SeqAt.RcNeAt.none_str _ _
    | tup h hs => cases (show u' = Value.ref _ from r2); obtain ⟨its, rv, p, hz⟩ := I.tuple h; exact SeqAt.RcNeAt.none_tuple (show s.heap.IsTuple _ its.toArray from p) hu
    | lst h hs => cases (show u' = Value.ref _ from r2); obtain ⟨its, rv, p, hz⟩ := I.list h; exact SeqAt.RcNeAt.none_list p.isList hu
  | bl b =>
    cases (show u = Value.bool _ from r1)
    cases h2 with
    | non => cases (show u' = Value.none from r2); exact SeqAt.RcNeAt.bool_none _
    | bl b => cases (show u' = Value.bool _ from r2); exact SeqAt.RcNeAt.bool_bool _ _
    | int i => obtain ⟨t, rfl⟩ := r2; exact SeqAt.RcNeAt.bool_int _ _ _
    | str x => obtain ⟨t, rfl⟩ := r2; exact SeqAt.RcNeAt.bool_str _ _ _
    | tup h hs => cases (show u' = Value.ref _ from r2); obtain ⟨its, rv, p, hz⟩ := I.tuple h; exact SeqAt.RcNeAt.bool_tuple _ (show s.heap.IsTuple _ its.toArray from p) hu
    | lst h hs => cases (show u' = Value.ref _ from r2); obtain ⟨its, rv, p, hz⟩ := I.list h; exact SeqAt.RcNeAt.bool_list _ p.isList hu
  | int i =>
    obtain ⟨t, rfl⟩ := r1
    cases h2 with
    | non => cases (show u' = Value.none from r2); exact SeqAt.RcNeAt.int_none _ _
    | bl b => cases (show u' = Value.bool _ from r2); exact SeqAt.RcNeAt.int_bool _ _ _
    | int i => obtain ⟨t, rfl⟩ := r2; exact SeqAt.RcNeAt.int_int _ _ _ _
    | str x => obtain ⟨t, rfl⟩ := r2; exact SeqAt.RcNeAt.int_str _ _ _ _
    | tup h hs => cases (show u' = Value.ref _ from r2); obtain ⟨its, rv, p, hz⟩ := I.tuple h; exact SeqAt.RcNeAt.int_tuple _ _ (show s.heap.IsTuple _ its.toArray from p) hu
    | lst h hs => cases (show u' = Value.ref _ from r2); obtain ⟨its, rv, p, hz⟩ := I.list h; exact SeqAt.RcNeAt.int_list _ _ p.isList hu
  | str x =>
    obtain ⟨t, rfl⟩ := r1
    cases h2 with
    | non => cases (show u' = Value.none from r2); exact SeqAt.RcNeAt.str_none _ _
    | bl b => cases (show u' = Value.bool _ from r2); exact SeqAt.RcNeAt.str_bool _ _ _
    | int i => obtain ⟨t, rfl⟩ := r2; exact SeqAt.RcNeAt.str_int _ _ _ _
    | str x => obtain ⟨t, rfl⟩ := r2; exact SeqAt.RcNeAt.str_str _ _ _ _
    | tup h hs => cases (show u' = Value.ref _ from r2); obtain ⟨its, rv, p, hz⟩ := I.tuple h; exact SeqAt.RcNeAt.str_tuple _ _ (show s.heap.IsTuple _ its.toArray from p) hu
    | lst h hs => cases (show u' = Value.ref _ from r2); obtain ⟨its, rv, p, hz⟩ := I.list h; exact SeqAt.RcNeAt.str_list _ _ p.isList hu
  | @tup a xs ds h hs =>
    cases (show u = Value.ref a from r1)
    obtain ⟨its, rv, p, hz⟩ := I.tuple h
    cases h2 with
    | non => cases (show u' = Value.none from r2); exact SeqAt.RcNeAt.tuple_none (show s.heap.IsTuple _ its.toArray from p) hu
    | bl b => cases (show u' = Value.bool _ from r2); exact SeqAt.RcNeAt.tuple_bool _ (show s.heap.IsTuple _ its.toArray from p) hu
    | int i => obtain ⟨t, rfl⟩ := r2; exact SeqAt.RcNeAt.tuple_int _ _ (show s.heap.IsTuple _ its.toArray from p) hu
    | str x => obtain ⟨t, rfl⟩ := r2; exact SeqAt.RcNeAt.tuple_str _ _ (show s.heap.IsTuple _ its.toArray from p) hu
    | @tup a' xs' ds' h' hs' =>
      cases (show u' = Value.ref a' from r2)
      · obtain ⟨its', rv', p', hz'⟩ := I.tuple h'
        have l1 : its.toArray.size = ds.length := by rw [List.size_toArray, ← rv.length, hs.length]
        have l2 : its'.toArray.size = ds'.length := by rw [List.size_toArray, ← rv'.length, hs'.length]
        have key := SeqAt.RcNeAt.tuples (A := A) (s := s) (show s.heap.IsTuple a its.toArray from p) (show s.heap.IsTuple a' its'.toArray from p') hu
          (items_eq (A := A.in1) (s := s) hs hs' rv rv' fun d d' v v' u u' hm iv iv' r r' => rc ds (.inl rfl) d d' v v' u u' hm iv iv' r r')
        rw [l1, l2, ← eqDs_iff] at key
        exact key
    | @lst a' xs' ds' h' hs' =>
      cases (show u' = Value.ref a' from r2)
      obtain ⟨its', rv', p', hz'⟩ := I.list h'
      exact SeqAt.RcNeAt.tuple_list (show s.heap.IsTuple _ its.toArray from p) p'.isList hu
  | @lst a xs ds h hs =>
    cases (show u = Value.ref a from r1)
    obtain ⟨its, rv, p, hz⟩ := I.list h
    cases h2 with
    | non => cases (show u' = Value.none from r2); exact SeqAt.RcNeAt.list_none p.isList hu
    | bl b => cases (show u' = Value.bool _ from r2); exact SeqAt.RcNeAt.list_bool _ p.isList hu
    | int i => obtain ⟨t, rfl⟩ := r2; exact SeqAt.RcNeAt.list_int _ _ p.isList hu
    | str x => obtain ⟨t, rfl⟩ := r2; exact SeqAt.RcNeAt.list_str _ _ p.isList hu
    | @tup a' xs' ds' h' hs' =>
      cases (show u' = Value.ref a' from r2)
      obtain ⟨its', rv', p', hz'⟩ := I.tuple h'
      exact SeqAt.RcNeAt.list_tuple p.isList (show s.heap.IsTuple _ its'.toArray from p') hu
    | @lst a' xs' ds' h' hs' =>
      cases (show u' = Value.ref a' from r2)
      · obtain ⟨its', rv', p', hz'⟩ := I.list h'
        have l1 : its.toArray.size = ds.length := by rw [List.size_toArray, ← rv.length, hs.length]
        have l2 : its'.toArray.size = ds'.length := by rw [List.size_toArray, ← rv'.length, hs'.length]
        by_cases hl : ds.length = ds'.length
        · have key := SeqAt.RcNeAt.lists (A := A) (s := s) p.isList p'.isList (by rw [l1, l2, hl]) hu
            (items_eq (A := A.in1) (s := s) hs hs' rv rv' fun d d' v v' u u' hm iv iv' r r' => rc ds (.inr rfl) d d' v v' u u' hm iv iv' r r')
          rw [l1, all_range_lists hl] at key
          exact key
        · have key := SeqAt.RcNeAt.lists_lengths (A := A) (s := s) p.isList p'.isList (by rw [l1, l2]; simp [hl]) hu
          rw [eqD, eqDs_len hl]
          exact key

theorem eqA {X : Cx} (hu : X.A.units + 64 < cLine) : OpR X (compareOp .Eq) (fun x y H Q => ∃ d d', IsD X.K H x d ∧ IsD X.K H y d' ∧ dep d ≤ 50 ∧ Q (.bl (eqD d d')) H) := by
  intro pins s σ H x y v u Q I rx ry h
  obtain ⟨d, d', h1, h2, hn, q⟩ := h
  refine rcAt_step I h1 h2 rx ry (by omega) (fun ds hd e e' w w' z z' hm i1 i2 q1 q2 => ?_) X.prog X.w X.xe _ ⟨.bl _, H, I, rfl, q⟩
  refine eqAt_D I 50 ?_ i1 i2 X.A.in1 z z' (by show X.A.units + 1 + 50 < cLine; omega) q1 q2
  have := dep_mem hm
  rcases hd with rfl | rfl <;> (rw [dep] at hn; omega)
theorem neA {X : Cx} (hu : X.A.units + 64 < cLine) : OpR X (compareOp .NotEq) (fun x y H Q => ∃ d d', IsD X.K H x d ∧ IsD X.K H y d' ∧ dep d ≤ 50 ∧ Q (.bl (!eqD d d')) H) := by
  intro pins s σ H x y v u Q I rx ry h
  obtain ⟨d, d', h1, h2, hn, q⟩ := h
  refine rcNe_step I h1 h2 rx ry (by omega) (fun ds hd e e' w w' z z' hm i1 i2 q1 q2 => ?_) X.prog X.w X.xe _ ⟨.bl _, H, I, rfl, q⟩
  refine eqAt_D I 50 ?_ i1 i2 X.A.in1 z z' (by show X.A.units + 1 + 50 < cLine; omega) q1 q2
  have := dep_mem hm
  rcases hd with rfl | rfl <;> (rw [dep] at hn; omega)
theorem k_eq {X : Cx} : OpK X (fun x y H Q => ∃ d d', IsD X.K H x d ∧ IsD X.K H y d' ∧ dep d ≤ 50 ∧ Q (.bl (eqD d d')) H) oEq := ⟨fun a b c z => (by
    unfold oEq at z; split at z <;> cases z), fun Hi H x y a b d Q s r1 r2 z q => by
    unfold oEq at z
    split at z
    · rename_i h; cases z; exact ⟨a, b, r1.mono s, r2.mono s, h, q _ Hi H (Ext.refl s) (.bl _)⟩
    · cases z⟩
theorem k_ne {X : Cx} : OpK X (fun x y H Q => ∃ d d', IsD X.K H x d ∧ IsD X.K H y d' ∧ dep d ≤ 50 ∧ Q (.bl (!eqD d d')) H) oNe := ⟨fun a b c z => (by
    unfold oNe at z; split at z <;> cases z), fun Hi H x y a b d Q s r1 r2 z q => by
    unfold oNe at z
    split at z
    · rename_i h; cases z; exact ⟨a, b, r1.mono s, r2.mono s, h, q _ Hi H (Ext.refl s) (.bl _)⟩
    · cases z⟩
/-! in, not in -/
open Classical in
/-- an item's answer, read off the value -/
noncomputable def ansU (K : PySem.W.Frag) (H : Hp) (dx : D) (u : Value) : Bool := if ∃ w d, IsD K H w d ∧ RelV w u ∧ eqD d dx = true then true else false
theorem ansU_eq (I : Inv X pins σ H s) {dx d : D} {w : V} {u : Value} (h : IsD X.K H w d) (r : RelV w u) : ansU X.K H dx u = eqD d dx := by
  unfold ansU
  by_cases e : eqD d dx = true
  · rw [if_pos ⟨w, d, h, r, e⟩, e]
  · rw [if_neg]
    · simpa using e
    · rintro ⟨w', d', h', r', e'⟩
      have := r.inj r'
      subst this
      have := IsD.inj I h h'
      subst this
      exact e e'
theorem any_ans (I : Inv X pins σ H s) {dx : D} : ∀ {xs : List V} {ds : List D} {us : List Value}, IsDs X.K H xs ds → Vals xs us → us.any (ansU X.K H dx) = ds.any fun d => eqD d dx
  | _, _, _, .nil, .nil => rfl
  | _, _, _, .cons h hs, .cons r t => by rw [List.any_cons, List.any_cons, ansU_eq I h r, any_ans I hs t]
theorem mem_ans (I : Inv X pins σ H s) {A : Around} {dx : D} {x : V} {ux : Value} (hx : IsD X.K H x dx) (rx : RelV x ux) (hu : A.units + 50 < cLine) : ∀ {xs : List V} {ds : List D} {us : List Value}, IsDs X.K H xs ds → Vals xs us → (∀ d ∈ ds, dep d ≤ 50) → ∀ u ∈ us, SeqAt.EqAt A s u ux (ansU X.K H dx u)
  | _, _, _, .nil, .nil, _ => fun u hu => by cases hu
  | _, _, _, .cons h hs, .cons r t, f => fun u hm => by
    rcases List.mem_cons.mp hm with rfl | hm
    · rw [ansU_eq I h r]; exact eqAt_D I 50 (f _ List.mem_cons_self) h hx A _ ux hu r rx
    · exact mem_ans I hx rx hu hs t (fun d hd => f d (List.mem_cons_of_mem _ hd)) u hm
noncomputable def rInA (K : PySem.W.Frag) (neg : Bool) : R2 := fun x y H Q => ∃ d ds, IsD K H x d ∧ (IsD K H y (.lst ds) ∨ IsD K H y (.tup ds)) ∧ depS ds ≤ 50 ∧ Q (.bl (if neg = true then !(ds.any fun e => eqD e d) else ds.any fun e => eqD e d)) H
theorem inA {X : Cx} (hu : X.A.units + 64 < cLine) : OpR X (compareOp .In) (rInA X.K false) := by
  intro pins s σ H x y v u Q I rx ry h
  obtain ⟨d, ds, h1, h2, hn, q⟩ := h
  have hd : ∀ e ∈ ds, dep e ≤ 50 := fun e he => Nat.le_trans (dep_mem he) hn
  rcases h2 with h2 | h2
  · obtain ⟨a, xs, rfl, hl, hs⟩ := h2.lstI
    cases ry
    obtain ⟨its, rv, p, hz⟩ := I.list hl
    refine SeqAt.in_listAt (ansU X.K H d) p.isList (fun y hy => mem_ans I h1 rx (by show X.A.units + 1 + 50 < cLine; omega) hs rv hd y (by simpa using hy)) ?_
    exact ⟨.bl _, H, I, by rw [List.any_toArray, any_ans I hs rv]; rfl, q⟩
  · obtain ⟨a, xs, rfl, hl, hs⟩ := h2.tupI
    cases ry
    obtain ⟨its, rv, p, hz⟩ := I.tuple hl
    refine SeqAt.in_tupleAt (ansU X.K H d) (show s.heap.IsTuple _ its.toArray from p) (fun y hy => mem_ans I h1 rx (by show X.A.units + 1 + 50 < cLine; omega) hs rv hd y (by simpa using hy)) ?_
    exact ⟨.bl _, H, I, by rw [List.any_toArray, any_ans I hs rv]; rfl, q⟩
theorem notInA {X : Cx} (hu : X.A.units + 64 < cLine) : OpR X (compareOp .NotIn) (rInA X.K true) := by
  intro pins s σ H x y v u Q I rx ry h
  obtain ⟨d, ds, h1, h2, hn, q⟩ := h
  have hd : ∀ e ∈ ds, dep e ≤ 50 := fun e he => Nat.le_trans (dep_mem he) hn
  rcases h2 with h2 | h2
  · obtain ⟨a, xs, rfl, hl, hs⟩ := h2.lstI
    cases ry
    obtain ⟨its, rv, p, hz⟩ := I.list hl
    refine SeqAt.notIn_listAt (ansU X.K H d) p.isList (fun y hy => mem_ans I h1 rx (by show X.A.units + 1 + 50 < cLine; omega) hs rv hd y (by simpa using hy)) ?_
    exact ⟨.bl _, H, I, by rw [List.any_toArray, any_ans I hs rv]; rfl, q⟩
  · obtain ⟨a, xs, rfl, hl, hs⟩ := h2.tupI
    cases ry
    obtain ⟨its, rv, p, hz⟩ := I.tuple hl
    refine SeqAt.notIn_tupleAt (ansU X.K H d) (show s.heap.IsTuple _ its.toArray from p) (fun y hy => mem_ans I h1 rx (by show X.A.units + 1 + 50 < cLine; omega) hs rv hd y (by simpa using hy)) ?_
    exact ⟨.bl _, H, I, by rw [List.any_toArray, any_ans I hs rv]; rfl, q⟩
theorem k_in {X : Cx} : OpK X (rInA X.K false) oIn := ⟨fun a b c z => (by
    cases b <;> first | cases z | (simp only [oIn] at z; split at z <;> cases z)), fun Hi H x y a b d Q s r1 r2 z q => by
    cases b <;> first | cases z | skip
    · rename_i ds
      simp only [oIn] at z
      split at z
      · rename_i h; cases z; exact ⟨a, ds, r1.mono s, .inr (r2.mono s), h, q _ Hi H (Ext.refl s) (.bl _)⟩
      · cases z
    · rename_i ds
      simp only [oIn] at z
      split at z
      · rename_i h; cases z; exact ⟨a, ds, r1.mono s, .inl (r2.mono s), h, q _ Hi H (Ext.refl s) (.bl _)⟩
      · cases z⟩
theorem k_notIn {X : Cx} : OpK X (rInA X.K true) oNotIn := ⟨fun a b c z => (by
    cases b <;> first | cases z | (simp only [oNotIn] at z; split at z <;> cases z)), fun Hi H x y a b d Q s r1 r2 z q => by
    cases b <;> first | cases z | skip
    · rename_i ds
      simp only [oNotIn] at z
      split at z
      · rename_i h; cases z; exact ⟨a, ds, r1.mono s, .inr (r2.mono s), h, q _ Hi H (Ext.refl s) (.bl _)⟩
      · cases z
    · rename_i ds
      simp only [oNotIn] at z
      split at z
      · rename_i h; cases z; exact ⟨a, ds, r1.mono s, .inl (r2.mono s), h, q _ Hi H (Ext.refl s) (.bl _)⟩
      · cases z⟩
end
end L3

namespace L3
open PySem PySem.Spec PyProof.Rows L2
unseal PEd PEf PTd PWd PAd PSd PSsd
section
variable {X : Cx} {G : Gx} {a b e : Expr} {es : List Expr} {pos p : Pos} {f g : Ev} {fs gs : Fv} {t u : Tv} {x : Str} {id T : String}
/-! ### built-in calls -/
noncomputable def CallK (X : Cx) (r : List V → Hp → VK → Prop) (o : List D → Res D) : Prop := (∀ a c, o a ≠ .err c) ∧ ∀ (Hi H : Hp) (vs : List V) (ds : List D) (d : D) (Q : VK), Same Hi H → IsDs X.K Hi vs ds → o ds = .ok d →
  (∀ v Hi' H', Ext Hi H Hi' H' → IsD X.K Hi' v d → Q v H') → r vs H Q
theorem call1 {r : List V → Hp → VK → Prop} {o : List D → Res D} (k : CallK X r o) : ∀ σ H Q, tD X G (eB o fs) σ H Q → tCB r (tAs X G fs) σ H Q := fun σ H Q q => by
  obtain ⟨ρ, Hi, R, ou⟩ := q
  refine outA R ou fun vs ds Hi1 H1 e1 R1 r1 o1 => ?_
  cases z : o ds with
  | no => rw [z] at o1; exact o1.elim
  | err c => exact absurd z (k.1 ds c)
  | ok d => rw [z] at o1; exact k.2 Hi1 H1 vs ds d Q R1.s r1 z fun v Hi2 H2 e2 r2 => o1 Hi2 H2 e2 v r2
theorem pd_callB {r : List V → Hp → VK → Prop} {o : List D → Res D} (hc : CallR X (.builtin id) r) (k : CallK X r o) (hg : Gl X x) (hm : X.mg x = none) (hv : bootBuiltins x = some (.builtin id)) (ha : PAd X G (e :: es) fs) (hn : x ≠ "__name__" := by decide) (hdb : (x == ("__debug__" : Str)) = false := by decide)
    (he : starEach (e :: es) X.env = (false, eval e X.env) :: starEach es X.env := by rfl) (hpl : (backTo pos (starEach es X.env)).any (·.1) = false := by rfl) : PEd X G (.Call (.Name x p) (e :: es) [] pos) (eB o fs) :=
  PE.wk (pe_callB hc hg hm hv ha hn hdb he hpl) (call1 k)
theorem pd_callTy {r : List V → Hp → VK → Prop} {o : List D → Res D} (hc : CallR X (.type T) r) (k : CallK X r o) (hg : Gl X x) (hm : X.mg x = none) (hv : bootBuiltins x = some (.type T)) (ha : PAd X G (e :: es) fs) (hn : x ≠ "__name__" := by decide) (hdb : (x == ("__debug__" : Str)) = false := by decide)
    (he : starEach (e :: es) X.env = (false, eval e X.env) :: starEach es X.env := by rfl) (hpl : (backTo pos (starEach es X.env)).any (·.1) = false := by rfl) : PEd X G (.Call (.Name x p) (e :: es) [] pos) (eB o fs) :=
  PE.wk (pe_callTy hc hg hm hv ha hn hdb he hpl) (call1 k)
theorem IsDs.one {K : PySem.W.Frag} {H : Hp} {vs : List V} {d : D} (h : IsDs K H vs [d]) : ∃ v, vs = [v] ∧ IsD K H v d := by
  cases h with
  | cons h t => cases t; exact ⟨_, rfl, h⟩
theorem IsDs.two {K : PySem.W.Frag} {H : Hp} {vs : List V} {d d' : D} (h : IsDs K H vs [d, d']) : ∃ v w, vs = [v, w] ∧ IsD K H v d ∧ IsD K H w d' := by
  cases h with
  | cons h t => obtain ⟨w, rfl, hw⟩ := t.one; exact ⟨_, w, rfl, h, hw⟩
theorem kb_len : CallK X (fun xs H Q => ∃ p ys, xs = [.ref p] ∧ (SqL X.K H p ys ∨ SqT X.K H p ys) ∧ Q (.int ys.length) H) bLen := ⟨fun a c z => (by
    unfold bLen at z; split at z <;> cases z), fun Hi H vs ds d Q s r z q => by
    unfold bLen at z
    split at z
    · cases z
      obtain ⟨v, rfl, h⟩ := r.one
      obtain ⟨a, xs, rfl, h1, h2⟩ := h.lstI
      refine ⟨a, xs, rfl, .inl (sqL_mono s h1), ?_⟩
      rw [h2.length]
      exact q _ Hi H (Ext.refl s) (.int _)
    · cases z
      obtain ⟨v, rfl, h⟩ := r.one
      obtain ⟨a, xs, rfl, h1, h2⟩ := h.tupI
      refine ⟨a, xs, rfl, .inr (sqT_mono s h1), ?_⟩
      rw [h2.length]
      exact q _ Hi H (Ext.refl s) (.int _)
    · cases z⟩
theorem kb_min : CallK X (fun xs H Q => ∃ i j, xs = [.int i, .int j] ∧ Q (.int (if j < i then j else i)) H) bMin := ⟨fun a c z => (by
    unfold bMin at z; split at z <;> cases z), fun Hi H vs ds d Q s r z q => by
    unfold bMin at z
    split at z
    · cases z
      obtain ⟨v, w, rfl, h, h'⟩ := r.two
      exact ⟨_, _, by rw [h.intI, h'.intI], q _ Hi H (Ext.refl s) (.int _)⟩
    · cases z⟩
theorem kb_tup : CallK X (fun xs H Q => ∃ p ys, xs = [.ref p] ∧ ((SqL X.K H p ys ∧ ∀ l, H l = none → Q (.ref l) (upd H l (.tup ys))) ∨ (SqT X.K H p ys ∧ Q (.ref p) H))) bTup := ⟨fun a c z => (by
    unfold bTup at z; split at z <;> cases z), fun Hi H vs ds d Q s r z q => by
    unfold bTup at z
    split at z
    · cases z
      obtain ⟨v, rfl, h⟩ := r.one
      obtain ⟨a, xs, rfl, h1, h2⟩ := h.lstI
      exact ⟨a, xs, rfl, .inl ⟨sqL_mono s h1, fun l hl => q _ _ _ (Ext.new s hl) (.tup (SqT.of upd_same) (h2.mono (same_new' (s.none hl) _)))⟩⟩
    · cases z
      obtain ⟨v, rfl, h⟩ := r.one
      obtain ⟨a, xs, rfl, h1, h2⟩ := h.tupI
      exact ⟨a, xs, rfl, .inr ⟨sqT_mono s h1, q _ Hi H (Ext.refl s) (.tup h1 h2)⟩⟩
    · cases z⟩
/-- list(..) -/
theorem pf_list (hg : Gl X "list") (hm : X.mg "list" = none) (hv : bootBuiltins "list" = some (.type "list")) (ha : PAd X G (e :: es) fs)
    (he : starEach (e :: es) X.env = (false, eval e X.env) :: starEach es X.env := by rfl) (hpl : (backTo pos (starEach es X.env)).any (·.1) = false := by rfl) : PEf X G (.Call (.Name "list" p) (e :: es) [] pos) (fList fs) :=
  PE.wk (pe_callTy call_list_of hg hm hv ha (by decide) (by decide) he hpl) fun σ H Q q => by
  obtain ⟨ρ, Hi, R, ou⟩ := q
  refine outA R ou fun vs ds Hi1 H1 e1 R1 r1 o1 => ?_
  split at o1
  · obtain ⟨v, rfl, h⟩ := r1.one
    obtain ⟨a, xs, rfl, h1, h2⟩ := h.lstI
    exact ⟨a, xs, rfl, .inl (sqL_mono R1.s h1), fun l hl => o1 _ _ (Ext.newF R1.s hl) l ⟨e1.h.none hl, R1.s.none hl, xs, upd_same, h2⟩⟩
  · obtain ⟨v, rfl, h⟩ := r1.one
    obtain ⟨a, xs, rfl, h1, h2⟩ := h.tupI
    exact ⟨a, xs, rfl, .inr (sqT_mono R1.s h1), fun l hl => o1 _ _ (Ext.newF R1.s hl) l ⟨e1.h.none hl, R1.s.none hl, xs, upd_same, h2⟩⟩
  · exact o1.elim
/-! ### isinstance(e, T), is None -/
/-- what is asked of the fragment for T -/
structure Kit (K : PySem.W.Frag) (T : String) : Prop where
  non : PySem.W.kitOne K (.type "NoneType") (.type T) = some (isT T .non)
  bl : PySem.W.kitOne K (.type "bool") (.type T) = some (isT T (.bl true))
  int : PySem.W.kitOne K (.type "int") (.type T) = some (isT T (.int 0))
  str : PySem.W.kitOne K (.type "str") (.type T) = some (isT T (.str ⟨#[]⟩))
  tup : PySem.W.kitOne K (.type "tuple") (.type T) = some (isT T (.tup []))
  lst : PySem.W.kitOne K (.type "list") (.type T) = some (isT T (.lst []))
theorem isT_ok (k : Kit X.K T) : CallR X (.builtin "isinstance") (fun xs H Q => ∃ y d, xs = [y, .ty T] ∧ IsD X.K H y d ∧ Q (.bl (isT T d)) H) := by
  intro pins s σ H xs us Q I r h
  obtain ⟨y, d, rfl, hd, q⟩ := h
  obtain ⟨u, w', rfl, rx, rc⟩ := vals2 r
  cases rc
  have fin : ∀ tk, EP X pins σ Q (.bool (isT T d)) { s with toks := tk } := fun tk => ⟨.bl _, H, I.tok _, rfl, q⟩
  cases hd with
  | non => cases (show u = Value.none from rx); exact PySem.W.kia_one PySem.W.kitx_none I.kIn True.intro k.non (fun z => nomatch z) fin
  | bl y => cases (show u = Value.bool y from rx); exact PySem.W.kia_one PySem.W.kitx_bool I.kIn True.intro k.bl (fun z => nomatch z) fin
  | int i => obtain ⟨t, q⟩ := (show ∃ t, u = Value.int i t from rx); cases q; exact PySem.W.kia_one PySem.W.kitx_int I.kIn True.intro k.int (fun z => nomatch z) fin
  | str y => obtain ⟨t, q⟩ := (show ∃ t, u = Value.str y t from rx); cases q; exact PySem.W.kia_one PySem.W.kitx_str I.kIn True.intro k.str (fun z => nomatch z) fin
  | @tup a xs ds h hs =>
    cases (show u = Value.ref a from rx)
    obtain ⟨its, rv, ⟨o, h1, h2, _⟩, hz⟩ := I.tuple h
    exact PySem.W.kia_one PySem.W.kitx_tuple I.kIn ⟨o, h1, h2⟩ k.tup (fun z => nomatch z) fin
  | @lst a xs ds h hs =>
    cases (show u = Value.ref a from rx)
    obtain ⟨its, rv, ⟨o, n, h1, h2, _⟩, hz⟩ := I.list h
    exact PySem.W.kia_one PySem.W.kitx_list I.kIn ⟨o, h1, h2⟩ k.lst (fun z => nomatch z) fin
theorem pd_isT {c : Expr} (k : Kit X.K T) (hg : Gl X "isinstance") (hm : X.mg "isinstance" = none) (ha : PEd X G a f) (hc : PE X c (tC (.ty T)))
    (h1 : starEach [a, c] X.env = (false, eval a X.env) :: starEach [c] X.env := by rfl) (h2 : starEach [c] X.env = (false, eval c X.env) :: starEach [] X.env := by rfl) (hpl : (backTo pos (starEach [c] X.env)).any (·.1) = false := by rfl) :
    PEd X G (.Call (.Name "isinstance" p) [a, c] [] pos) (eIsT T f) :=
  PE.wk (pe_callB (isT_ok k) hg hm boot_isinstance (pa_cons ha (pa_cons hc pa_nil h2) h1) (by decide) (by decide) h1 hpl) fun σ H Q q => by
  obtain ⟨ρ, Hi, R, ou⟩ := q
  refine out2 R ou fun v d Hi1 H1 e1 R1 r1 o1 => ?_
  exact ⟨v, d, rfl, r1.mono R1.s, o1.here R1.s _ (.bl _)⟩
theorem non_iff {K : PySem.W.Frag} {H : Hp} {v : V} {d : D} (h : IsD K H v d) : decide (v = .non) = isNon d := by
  cases h <;> simp [isNon]
/-! ### slices, list + list -/
variable {lo hi : Option Expr} {l h : Ov} {p2 : Pos}
noncomputable def tOv (X : Cx) (G : Gx) (f : Ov) : TO := fun σ H Q => ∃ ρ Hi, RelX X G Hi H σ ρ ∧ Out G Hi H (f ρ) fun o _ H' => Q o H'
@[irreducible] noncomputable def POd (X : Cx) (G : Gx) (e : Option Expr) (f : Ov) : Prop := PO X e (tOv X G f)
unseal POd
theorem PO.wk {X : Cx} {e : Option Expr} {t t' : TO} (h : PO X e t) (w : ∀ σ H Q, t' σ H Q → t σ H Q) : PO X e t' := fun pins s σ H Q I q => h pins s σ H Q I (w σ H Q q)
theorem od_none : POd X G none oN := PO.wk po_none fun σ H Q q => by
  obtain ⟨ρ, Hi, R, ou⟩ := q
  exact ou.here R.s
theorem od_some (he : PEd X G e f) : POd X G (some e) (oS f) := PO.wk (po_some he) fun σ H Q q => by
  obtain ⟨ρ, Hi, R, ou⟩ := q
  refine out2 R ou fun v d Hi1 H1 e1 R1 r1 o1 => ?_
  cases d with
  | int i => exact ⟨i, r1.intI, o1.here R1.s⟩
  | _ => exact o1.elim
theorem outO {f : Ov} {Hi H : Hp} {σ : St} {ρ : Rho} {β : Type} {k : Option Int → Res β} {k' : β → Hp → Hp → Prop} {Q : Option Int → Hp → Prop} (R : RelX X G Hi H σ ρ) (o : Out G Hi H ((f ρ).bind k) k')
    (w : ∀ c Hi' H', Ext Hi H Hi' H' → RelX X G Hi' H' σ ρ → Out G Hi' H' (k c) k' → Q c H') : tOv X G f σ H Q :=
  ⟨ρ, Hi, R, o.bind.imp fun d Hi' H' e q => w d Hi' H' e (R.grow e) q⟩
theorem cut_sIx (n d : Nat) (i : Option Int) : cut n i d = HT.sIx n d i := by
  cases i with
  | none => rfl
  | some i =>
    simp only [cut, HT.sIx]
    split <;> split <;> omega
theorem IsDs.cut {K : PySem.W.Frag} {H : Hp} {xs : List V} {ds : List D} (h : IsDs K H xs ds) (l r : Option Int) : IsDs K H (cutV xs l r) (sliceD ds l r) := by
  unfold cutV sliceD
  rw [cut_sIx, cut_sIx, h.length]
  exact (h.drop _).take _
theorem pf_slice (he : PEd X G e f) (hl : POd X G lo l) (hu : POd X G hi h) : PEf X G (.Subscript e (.Slice lo hi none p2) pos) (fSl f l h) := PE.wk (pe_slice sl_list he hl hu) fun σ H Q q => by
  obtain ⟨ρ, Hi, R, ou⟩ := q
  refine out2 R ou fun v d Hi1 H1 e1 R1 r1 o1 => ?_
  refine outO R1 o1 fun i Hi2 H2 e2 R2 o2 => ?_
  refine outO R2 o2 fun j Hi3 H3 e3 R3 o3 => ?_
  cases d with
  | lst ds =>
    obtain ⟨a, xs, rfl, h1, h2⟩ := r1.lstI
    refine ⟨a, xs, rfl, sqL_mono (e2.i.trans (e3.i.trans R3.s)) h1, fun p hp => ?_⟩
    exact o3 _ _ (Ext.newF R3.s hp) p ⟨(e1.h.trans (e2.h.trans e3.h)).none hp, R3.s.none hp, _, upd_same, (h2.cut i j).mono (e2.i.trans e3.i)⟩
  | _ => exact o3.elim
noncomputable def rCatS (K : PySem.W.Frag) : R2 := fun x y H Q => ∃ l b xs zs, x = .ref l ∧ y = .ref b ∧ SqL K H l xs ∧ SqL K H b zs ∧ xs.length + zs.length ≤ sizeLine ∧ ∀ p, H p = none → Q (.ref p) (upd H p (.lst (xs ++ zs)))
theorem op_catS : OpR X (binaryOp .Add) (rCatS X.K) := by
  intro pins s σ H x y v u Q I rx ry h
  obtain ⟨l, b, xs, zs, rfl, rfl, hl, hb, hz, q⟩ := h
  cases rx
  cases ry
  obtain ⟨its, r, p, _⟩ := I.list hl
  obtain ⟨its2, r2, p2, _⟩ := I.list hb
  obtain ⟨⟨cls, dd, data, sl⟩, ho, hc, n, hd⟩ := id p.isList
  obtain ⟨⟨cls2, dd2, data2, sl2⟩, ho2, hc2, n2, hd2⟩ := id p2.isList
  simp only at hc hd hc2 hd2
  subst hc hd hc2 hd2
  have hsz : its.toArray.size + its2.toArray.size ≤ sizeLine := by rw [List.size_toArray, List.size_toArray, ← r.length, ← r2.length]; exact hz
  have e : its.toArray ++ its2.toArray = (its ++ its2).toArray := by simp
  refine concat_meets ⟨_, ho, rfl⟩ ⟨_, ho2, rfl⟩ noFill_list_add seq_list_add PySem.F.slot_list_add PySem.F.entry_list_add (PySem.F.args_list_add_2 _ _) (list_addW l b its.toArray its2.toArray n n2 dd dd2 sl sl2 hsz) ⟨ho, ho2, ?_⟩
  rw [e]
  exact ⟨.ref _, _, I.lnew (t' := s.toks) (r.append r2) (by rw [List.length_append]; exact hz), rfl, q _ I.fresh⟩
theorem pf_cat (ha : PEd X G a f) (hb : PEd X G b g) : PEf X G (.BinOp a .Add b pos) (fCat f g) := PE.wk (pe_op op_catS ha hb) fun σ H Q q => by
  obtain ⟨ρ, Hi, R, ou⟩ := q
  refine out2 R ou fun v d Hi1 H1 e1 R1 r1 o1 => ?_
  refine out2 R1 o1 fun w d' Hi2 H2 e2 R2 r2 o2 => ?_
  cases d <;> first | exact o2.elim | skip
  cases d' <;> first | exact o2.elim | skip
  rename_i ds es
  obtain ⟨a, xs, rfl, h1, h2⟩ := r1.lstI
  obtain ⟨b, ys, rfl, h3, h4⟩ := r2.lstI
  have o2' : Out G Hi2 H2 (if ds.length + es.length ≤ 16777216 then Res.ok (ds ++ es) else .no) _ := o2
  by_cases hz : ds.length + es.length ≤ 16777216
  · rw [if_pos hz] at o2'
    refine ⟨a, b, xs, ys, rfl, rfl, sqL_mono (e2.i.trans e2.s) h1, sqL_mono e2.s h3, by rw [h2.length, h4.length]; exact hz, fun p hp => ?_⟩
    exact o2' _ _ (Ext.newF e2.s hp) p ⟨(e1.h.trans e2.h).none hp, e2.s.none hp, _, upd_same, (h2.mono e2.i).append h4⟩
  · rw [if_neg hz] at o2'; exact o2'.elim
end
end L3

namespace L3
open PySem PySem.Spec PyProof.Rows L2
unseal PEd PEf PTd PWd PAd PSd PSsd POd
/-! ### statements -/
section
variable {X : Cx} {G : Gx} {a b e : Expr} {es : List Expr} {pos p : Pos} {f g : Ev} {fs gs : Fv} {t u : Tv} {x : Str} {st : Stmt} {rest : List Stmt} {sa sb : Sv}
/-- what a statement does behind an expression -/
theorem finOf {Hi H : Hp} {σ : St} {ρ : Rho} {E : Ends} {α : Type} {r : Res α} {k : α → Res Fl} (R : RelX X G Hi H σ ρ) (h : Fin X G Hi E (r.bind k)) {Q : α → Hp → Hp → Prop}
    (w : ∀ a Hi' H', r = .ok a → Ext Hi H Hi' H' → Fin X G Hi' E (k a) → Q a Hi' H') : Out G Hi H r Q := by
  cases r with
  | no => exact h
  | err c => exact fun Hi' H' e => h Hi' H' (R.ext.trans e)
  | ok a => exact fun Hi' H' e => w a Hi' H' rfl e (Fin.mono (show Fin X G Hi E (k a) from h) e.i)
theorem ss_nil : PSsd X G [] sNext := PSs.wk pss_nil fun E σ H q => by
  obtain ⟨ρ, Hi, R, h⟩ := q
  exact h σ Hi H (Same.refl _) R
theorem seqFin {E : Ends} {σ : St} {H : Hp} (q : tS X G (sSeq sa sb) E σ H) : tS X G sa { E with nx := tS X G sb E } σ H := by
  obtain ⟨ρ, Hi, R, h⟩ := q
  refine ⟨ρ, Hi, R, ?_⟩
  unfold sSeq at h
  cases z : sa ρ with
  | no => rw [z] at h; exact h
  | err c => rw [z] at h; exact h
  | ok fl =>
    rw [z] at h
    cases fl with
    | nx ρ' => exact fun σ' Hi' H' s R' => ⟨ρ', Hi', R', Fin.mono (show Fin X G Hi E (sb ρ') from h) s⟩
    | brk ρ' => exact h
    | ctn ρ' => exact h
    | ret r => cases r <;> exact h
theorem ss_cons (h1 : PSd X G st sa) (h2 : PSsd X G rest sb) : PSsd X G (st :: rest) (sSeq sa sb) := PSs.wk (pss_cons h1 h2) fun _ _ _ q => seqFin q
theorem ss_one (h1 : PSd X G st sa) : PSsd X G [st] sa := pss_one h1
theorem s_expr (he : PEd X G e f) (hs : swapsWith e none pos.line X.env = pure false := by rfl) : PSd X G (.Expr e pos) (sDrop f) := PS.wk (ps_expr he hs) fun E σ H q => by
  obtain ⟨ρ, Hi, R, h⟩ := q
  exact ⟨ρ, Hi, R, finOf R h fun d Hi' H' _ e h' v r => h' σ Hi' H' (Same.refl _) (R.grow e)⟩
theorem s_ret (he : PEd X G e f) : PSd X G (.Return (some e) pos) (sRet f) := PS.wk (ps_ret he) fun E σ H q => by
  obtain ⟨ρ, Hi, R, h⟩ := q
  obtain ⟨Hf, s1, R1, fl⟩ := R.frz
  refine ⟨ρ.map Sl.frz, Hf, R1, finOf R1 (Fin.mono h s1) fun d Hi' H' _ e h' v r => ?_⟩
  exact h' v Hi' H' (R1.ext.trans e) r
theorem s_retF (he : PEf X G e fs) : PSd X G (.Return (some e) pos) (sRetF fs) := PS.wk (ps_ret he) fun E σ H q => by
  obtain ⟨ρ, Hi, R, h⟩ := q
  obtain ⟨Hf, s1, R1, fl⟩ := R.frz
  refine ⟨ρ.map Sl.frz, Hf, R1, finOf R1 (Fin.mono h s1) fun ds Hi' H' _ e h' a n => ?_⟩
  obtain ⟨n1, n2, xs, n3, n4⟩ := n
  exact h' a Hi' H' (R1.ext.trans e) ⟨R1.ext.h.none n1, n2, xs, n3, n4⟩
theorem s_retOwn (i : Nat) (he : PE X e (tVar i)) : PSd X G (.Return (some e) pos) (sRetOwn i) := PS.wk (ps_ret he) fun E σ H q => by
  obtain ⟨ρ, Hi, R, h⟩ := q
  unfold sRetOwn at h
  cases z : ρ[i]? with
  | none => rw [z] at h; exact h.elim
  | some s =>
    rw [z] at h
    cases s with
    | own ds =>
      obtain ⟨a, xs, p, h1, h2, h3, h4⟩ := R.slot i _ z
      exact ⟨.ref a, p, h a Hi H R.ext ⟨h3, h2, xs, h1, h4⟩⟩
    | un => exact h.elim
    | val d => exact h.elim
    | exc c => exact h.elim
    | tab T => exact h.elim
theorem s_if {c : Expr} {as bs : List Stmt} (hc : PTd X G c t) (ha : PSsd X G as sa) (hb : PSsd X G bs sb) : PSd X G (.If c as bs pos) (sIf t sa sb) := PS.wk (ps_if hc ha hb) fun E σ H q => by
  obtain ⟨ρ, Hi, R, h⟩ := q
  refine ⟨ρ, Hi, R, finOf R h fun c Hi' H' _ e h' => ?_⟩
  cases c with
  | true => exact ⟨ρ, Hi', R.grow e, h'⟩
  | false => exact ⟨ρ, Hi', R.grow e, h'⟩
theorem s_set {i : Nat} {pos' : Pos} (hN : X.N.Nodup) (hi : X.N[i]? = some x) (hx : Loc X.env.scope x) (he : PEd X G e f) (hs : swapsWith e (some (.Name x pos')) pos.line X.env = pure false := by rfl)
    (hf : X.fn x = true ∨ X.env.scope.names.lookup x = some .local := by first | exact .inl rfl | exact .inr rfl | assumption) : PSd X G (.Assign [.Name x pos'] e pos) (sSet i f) := PS.wk (ps_set hN hi hx he hs hf) fun E σ H q => by
  obtain ⟨ρ, Hi, R, h⟩ := q
  exact ⟨ρ, Hi, R, finOf R h fun d Hi' H' _ e h' v r => h' _ Hi' H' (Same.refl _) ((R.grow e).set r)⟩
theorem s_own {i : Nat} {pos' : Pos} (hN : X.N.Nodup) (hi : X.N[i]? = some x) (hx : Loc X.env.scope x) (he : PEf X G e fs) (hs : swapsWith e (some (.Name x pos')) pos.line X.env = pure false := by rfl)
    (hf : X.fn x = true ∨ X.env.scope.names.lookup x = some .local := by first | exact .inl rfl | exact .inr rfl | assumption) : PSd X G (.Assign [.Name x pos'] e pos) (sOwn i fs) := PS.wk (ps_set hN hi hx he hs hf) fun E σ H q => by
  obtain ⟨ρ, Hi, R, h⟩ := q
  refine ⟨ρ, Hi, R, finOf R h fun ds Hi' H' _ e h' a n => ?_⟩
  obtain ⟨n1, n2, xs, n3, n4⟩ := n
  exact h' _ Hi' H' (Same.refl _) (R.setOwn e n1 n3 n2 n4)
/-! x.append(e) and its like -/
theorem s_app {i : Nat} {o : Expr} {apos cpos : Pos} (ho : PE X o (tVar i)) (he : PEd X G e f)
    (hbase : attributeBase o "append" X.env (eval o X.env) = eval o X.env := by rfl)
    (hfew : ((backTo cpos (starEach [e] X.env)).all (fun x => !x.1) && (backToKw cpos (keywordEach [] X.env)).all (fun x => x.1.isSome)
      && decide ([e].length + ([] : List Keyword).length + (if ([] : List Keyword).isEmpty then 0 else 1) < 30)) = true := by rfl)
    (hline : (apos.endLine == cpos.line) = true := by rfl) (hs : starEach [e] X.env = (false, eval e X.env) :: starEach [] X.env := by rfl)
    (hsw : swapsWith (.Call (.Attribute o "append" apos) [e] [] cpos) none pos.line X.env = pure false := by rfl) :
    PSd X G (.Expr (.Call (.Attribute o "append" apos) [e] [] cpos) pos) (sApp i f) :=
  PS.wk (ps_expr (pe_bm PySem.F.plainAttrs_list PySem.F.slot_list_append PySem.F.type_list_append mt_append ho (pa_cons he pa_nil hs) hbase hfew hline hs) hsw) fun E σ H q => by
  obtain ⟨ρ, Hi, R, h⟩ := q
  unfold sApp at h
  cases z : ρ[i]? with
  | none => rw [z] at h; exact h.elim
  | some s =>
    rw [z] at h
    cases s with
    | own ds =>
      obtain ⟨a, xs, p, h1, h2, h3, h4⟩ := R.slot i _ z
      refine ⟨.ref a, p, .inl ⟨rfl, xs, SqL.of h1⟩, ?_⟩
      refine ⟨ρ, Hi, R, finOf R h fun d Hi' H' _ e h' v r => ?_⟩
      have R' := R.grow e
      obtain ⟨g1, g2⟩ := e.out h1 h2
      by_cases hz : ds.length < 16777216
      · rw [if_pos hz] at h'
        refine ⟨a, xs, v, rfl, rfl, g1, by rw [h4.length]; exact hz, ?_⟩
        exact h' σ Hi' _ (Same.refl _) (R'.write z p ((h4.mono e.i).append (.cons r .nil)))
      · rw [if_neg hz] at h'; exact h'.elim
    | un => exact h.elim
    | val d => exact h.elim
    | exc c => exact h.elim
    | tab T => exact h.elim
theorem s_ext {i : Nat} {o : Expr} {apos cpos : Pos} (ho : PE X o (tVar i)) (he : PEf X G e fs)
    (hbase : attributeBase o "extend" X.env (eval o X.env) = eval o X.env := by rfl)
    (hfew : ((backTo cpos (starEach [e] X.env)).all (fun x => !x.1) && (backToKw cpos (keywordEach [] X.env)).all (fun x => x.1.isSome)
      && decide ([e].length + ([] : List Keyword).length + (if ([] : List Keyword).isEmpty then 0 else 1) < 30)) = true := by rfl)
    (hline : (apos.endLine == cpos.line) = true := by rfl) (hs : starEach [e] X.env = (false, eval e X.env) :: starEach [] X.env := by rfl)
    (hsw : swapsWith (.Call (.Attribute o "extend" apos) [e] [] cpos) none pos.line X.env = pure false := by rfl) :
    PSd X G (.Expr (.Call (.Attribute o "extend" apos) [e] [] cpos) pos) (sExt i fs) :=
  PS.wk (ps_expr (pe_bm PySem.F.plainAttrs_list PySem.F.slot_list_extend PySem.F.type_list_extend mt_extend ho (pa_cons he pa_nil hs) hbase hfew hline hs) hsw) fun E σ H q => by
  obtain ⟨ρ, Hi, R, h⟩ := q
  unfold sExt at h
  cases z : ρ[i]? with
  | none => rw [z] at h; exact h.elim
  | some s =>
    rw [z] at h
    cases s with
    | own ds =>
      obtain ⟨a, xs, p, h1, h2, h3, h4⟩ := R.slot i _ z
      refine ⟨.ref a, p, .inl ⟨rfl, xs, SqL.of h1⟩, ?_⟩
      refine ⟨ρ, Hi, R, finOf R h fun es Hi' H' _ e h' b n => ?_⟩
      obtain ⟨n1, n2, ys, n3, n4⟩ := n
      have R' := R.grow e
      obtain ⟨g1, g2⟩ := e.out h1 h2
      by_cases hz : ds.length + es.length ≤ 16777216
      · rw [if_pos hz] at h'
        refine ⟨a, b, xs, ys, rfl, rfl, g1, n3, by rw [h4.length, n4.length]; exact hz, ?_⟩
        exact h' σ Hi' _ (Same.refl _) (R'.write z p ((h4.mono e.i).append n4))
      · rw [if_neg hz] at h'; exact h'.elim
    | un => exact h.elim
    | val d => exact h.elim
    | exc c => exact h.elim
    | tab T => exact h.elim
/-! own lists become values, ahead of a statement -/
theorem PSsd.frzAt (i : Nat) {sts : List Stmt} (h : PSsd X G sts sa) : PSsd X G sts (sFrzAt i sa) := PSs.wk h fun E σ H q => by
  obtain ⟨ρ, Hi, R, h⟩ := q
  obtain ⟨Hi', s, R'⟩ := R.frzAt (i := i)
  exact ⟨_, Hi', R', Fin.mono h s⟩
/-! ### targets, loops -/
noncomputable def tGv (X : Cx) (G : Gx) (g : Gv) : TG := fun v σ H Q => ∃ d ρ Hi, IsD X.K Hi v d ∧ RelX X G Hi H σ ρ ∧ ∃ ρ', g d ρ = .ok ρ' ∧ ∀ σ' Hi' H', Same Hi Hi' → RelX X G Hi' H' σ' ρ' → Q σ' H'
@[irreducible] noncomputable def PGd (X : Cx) (G : Gx) (e : Expr) (g : Gv) : Prop := PG X e (tGv X G g)
unseal PGd
theorem g_name {i : Nat} (hN : X.N.Nodup) (hi : X.N[i]? = some x) (hx : Loc X.env.scope x) (hf : X.fn x = true ∨ X.env.scope.names.lookup x = some .local := by first | exact .inl rfl | exact .inr rfl | assumption) : PGd X G (.Name x pos) (gName i) :=
  fun pins s σ H v u Q I r q => pg_name hN hi hx hf pins s σ H v u Q I r (by
    obtain ⟨d, ρ, Hi, rd, R, ρ', e, k⟩ := q
    cases e
    exact k _ Hi H (Same.refl _) (R.set rd))
noncomputable def tGvs (X : Cx) (G : Gx) (g : List D → Rho → Res Rho) : TGs := fun vs σ H Q => ∃ ds ρ Hi, IsDs X.K Hi vs ds ∧ RelX X G Hi H σ ρ ∧ ∃ ρ', g ds ρ = .ok ρ' ∧ ∀ σ' Hi' H', Same Hi Hi' → RelX X G Hi' H' σ' ρ' → Q σ' H'
@[irreducible] noncomputable def PGsd (X : Cx) (G : Gx) (es : List Expr) (g : List D → Rho → Res Rho) : Prop := PGs X es (tGvs X G g)
unseal PGsd
/-- what a loop walks: the items -/
noncomputable def Gives (K : PySem.W.Frag) (Hi : Hp) (J : It) (ds : List D) : Prop := ∀ (Hi1 H1 : Hp), Same Hi Hi1 → Same Hi1 H1 → ∀ i,
  (ds.length ≤ i → J.stop i H1) ∧ ∀ d, ds[i]? = some d → J.go i H1 ∧ ∀ x H2, J.yld i H1 x H2 → ∃ Hi2, Ext Hi1 H1 Hi2 H2 ∧ IsD K Hi2 x d
noncomputable def tIv (X : Cx) (G : Gx) (f : Fv) : TI := fun σ H R => ∃ ρ Hi, RelX X G Hi H σ ρ ∧ Out G Hi H (f ρ) fun ds Hi' H' => ∀ J, Gives X.K Hi' J ds → R J H'
@[irreducible] noncomputable def PId (X : Cx) (G : Gx) (tg e : Expr) (f : Fv) : Prop := PI X tg e (tIv X G f)
unseal PId
theorem PI.wk {tg : Expr} {t t' : TI} (h : PI X tg e t) (w : ∀ σ H Q, t' σ H Q → t σ H Q) : PI X tg e t' := fun pins s σ H Q I q => h pins s σ H Q I (w σ H Q q)
theorem s_for {tg iter : Expr} {body : List Stmt} {it : Fv} {g : Gv} (hp : PassesOwn (model X.prog X.w) X.A X.env X.xe) (hc : X.calm = true) (hi : PId X G tg iter it) (hg : PGd X G tg g) (hge : ∀ d ρ c, g d ρ ≠ .err c) (hb : PSsd X G body sa)
    (hs : ∀ x, foldedSetIterable iter X.env x = pure x := by intro _; rfl) : PSd X G (.For tg iter body [] pos) (sFor it g sa) := PS.wk (ps_for hp hc hi hg hb hs) fun E σ H q => by
  obtain ⟨ρ, Hi, R, h⟩ := q
  refine ⟨ρ, Hi, R, finOf R h fun ds Hi1 H1 _ e1 h1 J gv => ?_⟩
  refine ⟨fun i m σ' H' => m = ds.length - i ∧ ∃ ρ' Hi', Same Hi1 Hi' ∧ RelX X G Hi' H' σ' ρ' ∧ Fin X G Hi' E (loop g sa (ds.drop i) ρ'), ⟨_, rfl, ρ, Hi1, Same.refl _, R.grow e1, h1⟩, ?_⟩
  rintro i m σ' H' ⟨rfl, ρ', Hi', s', R', h'⟩
  obtain ⟨w1, w2⟩ := gv Hi' H' s' R'.s i
  by_cases hl : i < ds.length
  · obtain ⟨d, hd⟩ : ∃ d, ds[i]? = some d := ⟨_, List.getElem?_eq_getElem hl⟩
    obtain ⟨go, yl⟩ := w2 d hd
    have e3 : ds.drop i = d :: ds.drop (i + 1) := by
      rw [List.getElem?_eq_getElem hl] at hd
      cases hd
      exact List.drop_eq_getElem_cons hl
    rw [e3] at h'
    refine .inr ⟨go, fun σ2 H2 => ∃ ρ2 Hi2, Same Hi1 Hi2 ∧ RelX X G Hi2 H2 σ2 ρ2 ∧ Fin X G Hi2 E (loop g sa (ds.drop (i + 1)) ρ2), fun σ2 H2 z => ⟨ds.length - (i + 1), by omega, rfl, z⟩, fun x H2 y => ?_⟩
    obtain ⟨Hi2, e2, r2⟩ := yl x H2 y
    have R2 := R'.grow e2
    have h2 : Fin X G Hi2 E ((g d ρ').bind fun ρ1 => (sa ρ1).bind fun f => match f with
      | .nx ρ2 => loop g sa (ds.drop (i + 1)) ρ2
      | .ctn ρ2 => loop g sa (ds.drop (i + 1)) ρ2
      | .brk ρ2 => .ok (.nx ρ2)
      | .ret r => .ok (.ret r)) := Fin.mono h' e2.i
    cases z : g d ρ' with
    | no => rw [z] at h2; exact h2.elim
    | err c => exact absurd z (hge _ _ _)
    | ok ρ1 =>
      rw [z] at h2
      refine ⟨d, ρ', Hi2, r2, R2, ρ1, z, fun σ3 Hi3 H3 s3 R3 => ⟨ρ1, Hi3, R3, ?_⟩⟩
      have h3 := Fin.mono h2 s3
      have sm : Same Hi1 Hi3 := (s'.trans e2.i).trans s3
      simp only [Res.bind] at h3
      cases zb : sa ρ1 with
      | no => rw [zb] at h3; exact h3.elim
      | err c => rw [zb] at h3; exact h3
      | ok fl =>
        rw [zb] at h3
        cases fl with
        | nx ρ2 => exact fun σ4 Hi4 H4 s4 R4 => ⟨ρ2, Hi4, sm.trans s4, R4, Fin.mono (show Fin X G Hi3 E (loop g sa (ds.drop (i + 1)) ρ2) from h3) s4⟩
        | ctn ρ2 => exact fun σ4 Hi4 H4 s4 R4 => ⟨ρ2, Hi4, sm.trans s4, R4, Fin.mono (show Fin X G Hi3 E (loop g sa (ds.drop (i + 1)) ρ2) from h3) s4⟩
        | brk ρ2 => exact h3
        | ret r => cases r <;> exact h3
  · rw [List.drop_eq_nil_of_le (by omega)] at h'
    exact .inl ⟨w1 (by omega), h' σ' Hi' H' (Same.refl _) R'⟩
theorem gives_tup {K : PySem.W.Frag} {Hi : Hp} {a : Addr} {xs : List V} {ds : List D} (h : SqT K Hi a xs) (hs : IsDs K Hi xs ds) : Gives K Hi (Itt K a) ds := fun Hi1 H1 s1 s2 i => by
  have h1 := sqT_mono (s1.trans s2) h
  refine ⟨fun hl => ⟨xs, h1, by rw [hs.length]; exact hl⟩, fun d hd => ?_⟩
  obtain ⟨v, hv, r⟩ := hs.at hd
  refine ⟨⟨xs, v, h1, hv⟩, fun x H2 y => ?_⟩
  obtain ⟨e, y⟩ := y
  subst e
  have := y xs h1
  rw [hv] at this
  cases this
  exact ⟨Hi1, Ext.refl s2, r.mono s1⟩
theorem rng_get {lo c : Int} {n i : Nat} {d : D} (h : (rng lo n c)[i]? = some d) : i < n ∧ d = .int (lo + (i : Int) * c) := by
  unfold rng at h
  rw [List.getElem?_map] at h
  by_cases hl : i < n
  · rw [List.getElem?_range hl] at h; cases h; exact ⟨hl, rfl⟩
  · rw [List.getElem?_eq_none (by rw [List.length_range]; omega)] at h; cases h
theorem rng_len (lo c : Int) (n : Nat) : (rng lo n c).length = n := by unfold rng; rw [List.length_map, List.length_range]
theorem gives_rng {K : PySem.W.Frag} {Hi : Hp} (lo : Int) (n : Nat) : Gives K Hi (Itr lo n) (rng lo n 1) := fun Hi1 H1 s1 s2 i => by
  refine ⟨fun hl => by rw [rng_len] at hl; exact hl, fun d hd => ?_⟩
  obtain ⟨h1, rfl⟩ := rng_get hd
  refine ⟨h1, fun x H2 y => ?_⟩
  obtain ⟨e, y⟩ := y
  subst e y
  rw [Int.mul_one]
  exact ⟨Hi1, Ext.refl s2, .int _⟩
theorem i_rng1 {tg : Expr} (hg : Gl X "range") (hm : X.mg "range" = none) (ha : PAd X G [a] fs) (hs : starEach [a] X.env = [(false, eval a X.env)] := by rfl) : PId X G tg (.Call (.Name "range" p) [a] [] pos) (iRng1 fs) := PI.wk (pi_range1 hg hm ha hs) fun σ H Q q => by
  obtain ⟨ρ, Hi, R, ou⟩ := q
  refine outA R ou fun vs ds Hi1 H1 e1 R1 r1 o1 => ?_
  split at o1
  · rename_i j
    obtain ⟨v, rfl, h⟩ := r1.one
    by_cases hz : -(2 ^ 62) ≤ j ∧ j < 2 ^ 62
    · rw [if_pos hz] at o1
      exact ⟨j, by rw [h.intI], hz.1, hz.2, o1.here R1.s _ (gives_rng 0 j.toNat)⟩
    · rw [if_neg hz] at o1; exact o1.elim
  · exact o1.elim
end
end L3

namespace L3
open PySem PySem.Spec PyProof.Rows L2
unseal PEd PEf PTd PWd PAd PSd PSsd POd PGd PGsd PId
structure Fn (K : PySem.W.Frag) (mg : Str → Option Value) (x : Str) (st : Stmt) (ps : List Str) (f : Addr) (fd : FuncData) : Prop where
  fn : Fun K x x st f fd
  bd : Binds K fd ps []
  kp : PySem.W.keepIn K (.ref f) = true
  mg : mg x = some (.ref f)
/-- what is wanted of an error, by its class -/
noncomputable def XE (X : Cx) (G : Gx) : XK := fun cls _ H => ∃ c, X.mg c = some cls ∧ G.E c H
structure Good (X : Cx) (G : Gx) (k : Nat) : Prop where
  calm : X.calm = true
  room : Room k X.A
  pass : Passes (CX1 X.prog X.w) X (XE X G)
  own : PassesOwn (model X.prog X.w) X.A X.env X.xe
/-- it may raise -/
noncomputable def GoodR (X : Cx) (G : Gx) : Prop := ∀ (pins : List (Addr × Obj)) (σ : St) (H : Hp) (s s' : Shared) (ea : Addr) (cls : Value) (vs : List Value), Inv X pins σ H s → Heap.MadeExcOf s.heap s'.heap ea cls vs → s'.os = s.os → AllBare s'.gens → XE X G cls none H → X.xe (.ref ea) s'
noncomputable def spM (K : PySem.W.Frag) (mg : Str → Option Value) (p : Nat) (m : Mir) : Sp := fun vs H Q E => vs.length = p ∧ ∃ Bi ds, Same Bi H ∧ IsDs K Bi vs ds ∧ match m ds with
  | .ok (.v d) => ∀ v Hi' H', Ext Bi H Hi' H' → IsD K Hi' v d → Q v H'
  | .ok (.f es) => ∀ a Hi' H', Ext Bi H Hi' H' → NewL K H Hi' H' a es → Q (.ref a) H'
  | .err c => ∀ C, mg c = some C → ∀ Hi' H', Ext Bi H Hi' H' → E C none H'
  | .no => False
structure CanM (P : Program) (w : World) (K : PySem.W.Frag) (mg : Str → Option Value) (base : Heap) (k : Nat) (x : Str) (ps : List Str) (m : Mir) : Prop where
  ex : ∃ f fd, FnOk P w K mg base (CX1 P w) k f fd ps (spM K mg ps.length m) ∧ Binds K fd ps [] ∧ PySem.W.keepIn K (.ref f) = true ∧ mg x = some (.ref f)
  ln : ∀ ds, m ds ≠ .no → ds.length = ps.length
theorem Good.u {X : Cx} {G : Gx} {k : Nat} (W : Good X G k) : X.A.units + 64 < cLine := W.room.units
theorem CanM.mono {P : Program} {w : World} {K : PySem.W.Frag} {mg : Str → Option Value} {base : Heap} {j k : Nat} {x : Str} {ps : List Str} {m : Mir} (c : CanM P w K mg base j x ps m) (h : j ≤ k) : CanM P w K mg base k x ps m := by
  obtain ⟨⟨f, fd, F, r⟩, l⟩ := c
  exact ⟨⟨f, fd, F.mono h, r⟩, l⟩
section
variable {X : Cx} {G : Gx} {a b e : Expr} {es : List Expr} {pos p : Pos} {f g : Ev} {fs gs : Fv} {t u : Tv} {x : Str} {st : Stmt} {rest : List Stmt} {sa sb : Sv} {k : Nat} {ps : List Str} {m : Mir}
theorem call_m {ps : List Str} (ln : ∀ ds, m ds ≠ .no → ds.length = ps.length) : ∀ σ H Q, tD X G (eCall m fs) σ H Q → tCall (spM X.K X.mg ps.length m) [] (XE X G) (tAs X G fs) σ H Q := fun σ H Q q => by
  obtain ⟨ρ, Hi, R, ou⟩ := q
  refine outA R ou fun vs ds Hi1 H1 e1 R1 r1 o1 => ?_
  rw [List.append_nil]
  have hm : m ds ≠ .no := fun z => by rw [z] at o1; exact o1
  refine ⟨by rw [r1.length]; exact ln ds hm, Hi1, ds, R1.s, r1, ?_⟩
  cases z : m ds with
  | no => exact absurd z hm
  | err c => rw [z] at o1; exact fun C hC Hi2 H2 e2 => ⟨c, hC, o1 Hi2 H2 e2⟩
  | ok r =>
    rw [z] at o1
    cases r with
    | v d => exact fun v Hi2 H2 e2 r2 => o1 Hi2 H2 e2 v r2
    | f ds =>
      intro a Hi2 H2 e2 n
      obtain ⟨n1, n2, xs, n3, n4⟩ := n
      exact o1 _ _ (e2.hold n1 n3 n2) (.ref a) (.lst (SqL.of upd_same) (n4.mono (same_new' n2 _)))
theorem pd_call (W : Good X G k) (c : CanM X.prog X.w X.K X.mg X.base k x ps m) (hg : Gl X x) (ha : PAd X G (e :: es) fs)
    (hdb : (x == ("__debug__" : Str)) = false := by decide) (he : starEach (e :: es) X.env = (false, eval e X.env) :: starEach es X.env := by rfl) (hpl : (backTo pos (starEach es X.env)).any (·.1) = false := by rfl) :
    PEd X G (.Call (.Name x p) (e :: es) [] pos) (eCall m fs) := by
  obtain ⟨⟨f, fd, F, b, kp, hm⟩, ln⟩ := c
  exact PE.wk (pe_call F W.room hg hm kp b .nil W.pass ha hdb he hpl) (call_m ln)
theorem callF_m {ps : List Str} (ln : ∀ ds, m ds ≠ .no → ds.length = ps.length) : ∀ σ H Q, tF X G (fCall m fs) σ H Q → tCall (spM X.K X.mg ps.length m) [] (XE X G) (tAs X G fs) σ H Q := fun σ H Q q => by
  obtain ⟨ρ, Hi, R, ou⟩ := q
  refine outA R ou fun vs ds Hi1 H1 e1 R1 r1 o1 => ?_
  rw [List.append_nil]
  have hm : m ds ≠ .no := fun z => by rw [z] at o1; exact o1
  refine ⟨by rw [r1.length]; exact ln ds hm, Hi1, ds, R1.s, r1, ?_⟩
  cases z : m ds with
  | no => exact absurd z hm
  | err c => rw [z] at o1; exact fun C hC Hi2 H2 e2 => ⟨c, hC, o1 Hi2 H2 e2⟩
  | ok r =>
    rw [z] at o1
    cases r with
    | v d => exact o1.elim
    | f ds => exact fun a Hi2 H2 e2 n => o1 Hi2 H2 e2 a ⟨e1.h.none n.1, n.2⟩
theorem pf_call (W : Good X G k) (c : CanM X.prog X.w X.K X.mg X.base k x ps m) (hg : Gl X x) (ha : PAd X G (e :: es) fs)
    (hdb : (x == ("__debug__" : Str)) = false := by decide) (he : starEach (e :: es) X.env = (false, eval e X.env) :: starEach es X.env := by rfl) (hpl : (backTo pos (starEach es X.env)).any (·.1) = false := by rfl) :
    PEf X G (.Call (.Name x p) (e :: es) [] pos) (fCall m fs) := by
  obtain ⟨⟨f, fd, F, b, kp, hm⟩, ln⟩ := c
  exact PE.wk (pe_call F W.room hg hm kp b .nil W.pass ha hdb he hpl) (callF_m ln)
/-- a value of the module's top -/
theorem pd_glob {d : D} (hg : Gl X x) (h : ∃ v u', X.mg x = some u' ∧ RelV v u' ∧ IsD X.K (fun _ => none) v d) (hdb : (x == ("__debug__" : Str)) = false := by decide) : PEd X G (.Name x pos) (eC d) := by
  obtain ⟨v, u', hm, r, hd⟩ := h
  exact pd_c (pe_glob hg hm r hdb) fun H => hd.mono fun b o z => by cases z
end
/-! ### defs -/
noncomputable abbrev BX (P : Program) (w : World) (K : PySem.W.Frag) (mg : Str → Option Value) (base : Heap) (N : List Str) (x : Str) (st : Stmt) (f : Addr) (cdv : Value) (A : Around) (outer : List Env) (s : Shared) (H : Hp) (E : XK) : Cx :=
  cxOf (CX1 P w) P w K mg base N x (defScope st) f cdv A outer s H E
theorem start_rel {K : PySem.W.Frag} {mg : Str → Option Value} {Bi H : Hp} {N : List Str} {vs : List V} {ds : List D} (s : Same Bi H) (h : IsDs K Bi vs ds) : Rel K mg H Bi Bi H (L2.start N vs) (L3.start N.length ds) where
  len := by
    unfold L2.start L3.start
    rw [List.length_append, List.length_append, List.length_map, List.length_map, List.length_replicate, List.length_replicate, h.length]
  ext := Ext.refl s
  slot := fun i sl e => by
    unfold L3.start at e
    by_cases hi : i < ds.length
    · rw [List.getElem?_append_left (by rw [List.length_map]; exact hi), List.getElem?_map] at e
      obtain ⟨d, hd⟩ : ∃ d, ds[i]? = some d := ⟨_, List.getElem?_eq_getElem hi⟩
      rw [hd] at e; cases e
      obtain ⟨v, hv, r⟩ := h.at hd
      refine ⟨v, ?_, r⟩
      unfold L2.start
      rw [List.getElem?_append_left (by rw [List.length_map, h.length]; exact hi), List.getElem?_map, hv]
      rfl
    · rw [List.getElem?_append_right (by rw [List.length_map]; omega), List.getElem?_replicate] at e
      split at e
      · cases e; trivial
      · cases e
  dist := fun i j a es fs e _ _ _ => by
    exfalso
    unfold L3.start at e
    by_cases hi : i < ds.length
    · rw [List.getElem?_append_left (by rw [List.length_map]; exact hi), List.getElem?_map] at e
      cases z : ds[i]? with
      | none => rw [z] at e; cases e
      | some d => rw [z] at e; cases e
    · rw [List.getElem?_append_right (by rw [List.length_map]; omega), List.getElem?_replicate] at e
      split at e <;> cases e
section
variable {P : Program} {w : World} {K : PySem.W.Frag} {mg : Str → Option Value} {base : Heap} {N ps : List Str} {x : Str} {st : Stmt} {f : Addr} {fd : FuncData} {k : Nat} {b : Sv}
theorem good_cx {cdv : Value} {A : Around} {outer : List Env} {s : Shared} {H Bi : Hp} {E : XK} (hr : Room k (A.deeper (envOfC x (defScope st) s.heap.objs.size f cdv))) :
    Good (BX P w K mg base N x st f cdv A outer s H E) ⟨H, Bi, fun c H' => ∀ C, mg c = some C → E C none H'⟩ k where
  calm := rfl
  room := hr
  pass := passX fun c H' q => by
    obtain ⟨c', h1, h2⟩ := q
    exact h2 c h1
  own := PassesOwn.leaving
theorem goodR_cx {cdv : Value} {A : Around} {outer : List Env} {s : Shared} {H Bi : Hp} {E : XK} :
    GoodR (BX P w K mg base N x st f cdv A outer s H E) ⟨H, Bi, fun c H' => ∀ C, mg c = some C → E C none H'⟩ := fun pins σ H1 s1 s' ea cls vs I hx hos hg q => by
  obtain ⟨c', h1, h2⟩ := q
  exact made_leaves I hx hos hg (h2 cls h1)
theorem fn_ok (F : Fn K mg x st ps f fd) (S : FnScope N ps (defScope st))
    (h : ∀ (cdv : Value) (A : Around) (outer : List Env) (s : Shared) (H : Hp) (E : XK) (G : Gx), Good (BX P w K mg base N x st f cdv A outer s H E) G k → GoodR (BX P w K mg base N x st f cdv A outer s H E) G → PSsd (BX P w K mg base N x st f cdv A outer s H E) G (defBody st) b) :
    FnOk P w K mg base (CX1 P w) (k + 1) f fd ps (spM K mg ps.length (fn ps.length N.length b)) := by
  obtain ⟨oc, od, kV, doc, pm, an, cdv, ct, osl, rfl, lk, hcd⟩ := F.fn.ex
  refine fn_of lk hcd S (fun vs H Q E h => h.1) fun A outer s H vs Q E hr hsp => ?_
  obtain ⟨hl, Bi, ds, sm, hd, hq⟩ := hsp
  have hg := good_cx (P := P) (w := w) (K := K) (mg := mg) (base := base) (N := N) (outer := outer) (H := H) (Bi := Bi) (E := E) hr
  refine ⟨_, h cdv A outer s H E _ hg goodR_cx, L3.start N.length ds, Bi, start_rel sm hd, ?_⟩
  have hlen : ds.length = ps.length := by rw [← hd.length]; exact hl
  unfold fn at hq
  rw [if_pos hlen] at hq
  cases z : b (L3.start N.length ds) with
  | no => rw [z] at hq; exact hq
  | err c => rw [z] at hq; exact fun Hi' H' e C hC => hq C hC Hi' H' e
  | ok fl =>
    rw [z] at hq
    cases fl with
    | nx ρ' => exact fun σ' Hi' H' s R => hq .non Hi' H' R.ext .non
    | brk ρ' => exact hq.elim
    | ctn ρ' => exact hq.elim
    | ret r =>
      cases r with
      | v d => exact hq
      | f es => exact hq
theorem fn_pure (F : Fn K mg x st ps f fd) (S : FnScope N ps (defScope st))
    (h : ∀ (cdv : Value) (A : Around) (outer : List Env) (s : Shared) (H : Hp) (E : XK) (G : Gx), Good (BX P w K mg base N x st f cdv A outer s H E) G k → GoodR (BX P w K mg base N x st f cdv A outer s H E) G → PSsd (BX P w K mg base N x st f cdv A outer s H E) G (defBody st) b) :
    CanM P w K mg base (k + 1) x ps (fn ps.length N.length b) := by
  refine ⟨⟨f, fd, fn_ok F S h, F.bd, F.kp, F.mg⟩, fun ds hm => ?_⟩
  unfold fn at hm
  split at hm
  · assumption
  · exact absurd rfl hm
end
end L3

namespace L3
open PySem PySem.Spec PyProof.Rows L2
unseal PEd PEf PTd PWd PAd PSd PSsd POd PGd PGsd PId
section
variable {X : Cx} {G : Gx} {a b e : Expr} {es : List Expr} {pos p : Pos} {f g : Ev} {fs gs : Fv} {t u : Tv} {x : Str} {st : Stmt} {rest : List Stmt} {sa sb : Sv} {k : Nat}
theorem tst_isN {c : Expr} (ha : PEd X G a f) (hc : PE X c (tC .non)) (hm : behindInMarks .Is c = false) : PTd X G (.Compare a [.Is] [c] pos) (tVal (eIsN f)) := PT.wk (pt_cmpR op_isN ha hc hm) fun σ H Q q => by
  obtain ⟨ρ, Hi, R, ou⟩ := q
  unfold tVal eIsN at ou
  cases z : f ρ with
  | no => rw [z] at ou; exact ou.elim
  | err c => rw [z] at ou; exact ⟨ρ, Hi, R, by rw [z]; exact ou⟩
  | ok d =>
    rw [z] at ou
    refine ⟨ρ, Hi, R, ?_⟩
    rw [z]
    intro Hi1 H1 e1 v r
    exact ⟨rfl, _, rfl, by rw [non_iff r]; exact ou Hi1 H1 e1⟩
theorem PTd.frz (h : PTd X G e t) : PTd X G e (tFrzB t) := PT.wk h fun σ H Q q => by
  obtain ⟨ρ, Hi, R, ou⟩ := q
  obtain ⟨Hf, s1, R1, fl⟩ := R.frz
  refine ⟨ρ.map Sl.frz, Hf, R1, ?_⟩
  unfold tFrzB at ou
  cases z : t (ρ.map Sl.frz) with
  | no => rw [z] at ou; exact ou
  | err c =>
    rw [z] at ou
    intro Hi1 H1 e1
    obtain ⟨Ht, e2, k, s2, n⟩ := Ext.thaw s1 fl R1.s e1
    exact ou Ht H1 e2
  | ok c =>
    rw [z] at ou
    intro Hi1 H1 e1
    obtain ⟨Ht, e2, k, s2, n⟩ := Ext.thaw s1 fl R1.s e1
    exact ou Ht H1 e2
/-! a list or a tuple, walked -/
noncomputable def iSq (K : PySem.W.Frag) (tl : TE) : TI := fun σ H R => tl σ H fun x H1 => ∃ a, x = .ref a ∧ (((∃ xs, SqL K H1 a xs) ∧ R (Itl K a) H1) ∨ ((∃ xs, SqT K H1 a xs) ∧ R (Itt K a) H1))
theorem pi_seq {tg l : Expr} {tl : TE} (hl : PE X l tl) : PI X tg l (iSq X.K tl) := by
  intro pins s σ H R I h
  refine thn (hl pins s σ H _ I h) fun v s1 ⟨x, H1, I1, r1, q1⟩ => ?_
  obtain ⟨a, e, q1⟩ := q1
  subst e
  cases r1
  rcases q1 with ⟨⟨xs, hq⟩, q⟩ | ⟨⟨xs, hq⟩, q⟩
  · obtain ⟨its, rv, p, hz⟩ := I1.list hq
    refine wpAny_pyIter_list p.isList ?_
    refine ⟨s1.heap.objs.size, [s1.heap.objs.size], _, _, H1, rfl, I1.kept (t' := s1.toks) fun b o e => Heap.get?_push_of_some _ e, turn_list a _, ⟨_, Heap.get?_push_size _ rfl, rfl, rfl⟩, fun b hb => ?_, q⟩
    have e : b = s1.heap.objs.size := by simpa using hb
    subst e
    exact I1.fpOk (Nat.le_refl _) (I1.hok.fresh (Nat.le_refl _))
  · obtain ⟨its, rv, p, hz⟩ := I1.tuple hq
    refine wpAny_pyIter_tuple (show s1.heap.IsTuple a its.toArray from p) ?_
    refine ⟨s1.heap.objs.size, [s1.heap.objs.size], _, _, H1, rfl, I1.kept (t' := s1.toks) fun b o e => Heap.get?_push_of_some _ e, turn_tuple a _, ⟨_, Heap.get?_push_size _ rfl, rfl, rfl⟩, fun b hb => ?_, q⟩
    have e : b = s1.heap.objs.size := by simpa using hb
    subst e
    exact I1.fpOk (Nat.le_refl _) (I1.hok.fresh (Nat.le_refl _))
theorem gives_lst {K : PySem.W.Frag} {Hi : Hp} {a : Addr} {xs : List V} {ds : List D} (h1 : SqL K Hi a xs) (h2 : IsDs K Hi xs ds) : Gives K Hi (Itl K a) ds := fun Hi1 H1 s1 s2 i => by
  have h3 := sqL_mono (s1.trans s2) h1
  refine ⟨fun hl => ⟨xs, h3, by rw [h2.length]; exact hl⟩, fun d hd => ?_⟩
  obtain ⟨v, hv, r⟩ := h2.at hd
  refine ⟨⟨xs, v, h3, hv⟩, fun x H2 y => ?_⟩
  obtain ⟨e, y⟩ := y
  subst e
  have := y xs h3
  rw [hv] at this
  cases this
  exact ⟨Hi1, Ext.refl s2, r.mono s1⟩
theorem i_seq {tg : Expr} (h : PEd X G e f) : PId X G tg e (iSeq f) := PI.wk (pi_seq h) fun σ H Q q => by
  obtain ⟨ρ, Hi, R, ou⟩ := q
  refine out2 R ou fun v d Hi1 H1 e1 R1 r1 o1 => ?_
  cases d with
  | lst ds =>
    obtain ⟨a, xs, rfl, h1, h2⟩ := r1.lstI
    exact ⟨a, rfl, .inl ⟨⟨xs, sqL_mono R1.s h1⟩, o1.here R1.s _ (gives_lst h1 h2)⟩⟩
  | tup ds =>
    obtain ⟨a, xs, rfl, h1, h2⟩ := r1.tupI
    exact ⟨a, rfl, .inr ⟨⟨xs, sqT_mono R1.s h1⟩, o1.here R1.s _ (gives_tup h1 h2)⟩⟩
  | _ => exact o1.elim
/-! targets are never an error -/
theorem gne_name {i : Nat} : ∀ d ρ c, gName i d ρ ≠ .err c := fun d ρ c z => by cases z
end
end L3

namespace L3
open PySem PySem.Spec PyProof.Rows L2
unseal PEd PEf PTd PWd PAd PSd PSsd POd PGd PGsd PId
/-! ### the law's own def -/
noncomputable def spL (K : PySem.W.Frag) : Sp := fun vs H Q _ => ∃ (a : Addr) (ns : List Int), vs = [.ref a] ∧ SqL K H a (ns.map V.int) ∧ ns.length ≤ 63 ∧ ∀ H', Q (.bl true) H'
theorem isDs_ints {K : PySem.W.Frag} {H : Hp} : ∀ ns : List Int, IsDs K H (ns.map V.int) (ns.map D.int)
  | [] => .nil
  | n :: ns => .cons (.int n) (isDs_ints ns)
theorem law_at {P : Program} {w : World} {K : PySem.W.Frag} {mg : Str → Option Value} {base : Heap} {k : Nat} {m : Mir} {f : Addr} {fd : FuncData} (F : FnOk P w K mg base (CX1 P w) k f fd ["script"] (spM K mg 1 m))
    (h : ∀ ns : List Int, ns.length ≤ 63 → m [.lst (ns.map D.int)] = .ok (.v (.bl true))) : FnOk P w K mg base (CX1 P w) k f fd ["script"] (spL K) := by
  refine F.imp fun vs H Q E q => ?_
  obtain ⟨a, ns, rfl, hS, hl, q⟩ := q
  refine ⟨rfl, H, [.lst (ns.map D.int)], Same.refl _, .cons (.lst hS (isDs_ints ns)) .nil, ?_⟩
  rw [h ns hl]
  intro v Hi' H' e r
  rw [r.blI]
  exact q H'
theorem walk {l : PySem.W.OpenLaw} {k : Nat} {q : Program} {loose : List Str} {XP : (Str → Option Value) → Heap → Prop} {YP : World → Heap → Prop} {d : DefRec} {K : Params → PySem.W.Frag} (hn : l.most = some 63) (hdf : d.params.defaults = []) (hr : Room k callerA)
    (hY : ∀ (w : World) (h : Heap), YP w h → (K w.params).In h)
    (F : ∀ (w : World) (mg : Str → Option Value) (fa : Addr) (h : Heap), (K w.params).In h → h.Ns mainGlobals mg → mg d.name = some (.ref fa) →
      ∃ fd : FuncData, (∀ (s : Shared) (u : Value), BindsTo s fd ⟨[u], []⟩ [("script", u)]) ∧ ∀ base : Heap, (K w.params).In base → base.Ns mainGlobals mg → FnOk l.prog w (K w.params) mg base (CX1 l.prog w) k fa fd ["script"] (spL (K w.params))) :
    PySem.W.WalkO q loose XP YP l.row.toRowW d [] (fun f vs => PySem.call f vs) :=
  L2.walk_of (n := 63) (k := k) (x := "script") (CX := fun w => CX1 l.prog w) (sp := fun w => spL (K w.params)) hn (by decide) hdf hr hY F (fun _ _ a ns hl _ hS => ⟨a, ns, rfl, hS, hl, fun _ => rfl⟩) fun _ _ _ _ _ z => by
    obtain ⟨_, _, _, _, _, z⟩ := z
    exact z
end L3

namespace L3
open PySem PySem.Spec PyProof.Rows L2
unseal PEd PEf PTd PWd PAd PSd PSsd POd PGd PGsd PId
section
variable {X : Cx} {G : Gx} {e : Expr} {es : List Expr} {pos np cpos : Pos} {fs : Fv} {k : Nat} {c : Str}
theorem s_raise (W : Good X G k) (WR : GoodR X G) (hR : ∃ C, Err X.K X.mg c C) (hg : Gl X c) (ha : PAd X G (e :: es) fs)
    (he : starEach (e :: es) X.env = (false, eval e X.env) :: starEach es X.env := by rfl) (hplain : (backTo cpos (starEach es X.env)).any (·.1) = false := by rfl) (hd : (c == ("__debug__" : Str)) = false := by decide) :
    PSd X G (.Raise (some (.Call (.Name c np) (e :: es) [] cpos)) none pos) (sRaise c fs) := by
  intro pins s σ H E I q
  obtain ⟨ρ, Hi, R, h⟩ := q
  obtain ⟨C, Er⟩ := hR
  obtain ⟨bmB, newId, B, initId, O, FB⟩ := Er.own X.base I.mod.kin
  obtain ⟨tl, N, nm, q, bs, hdct, sn, sub, ab, col, dd, k0, k1, k2, k3, k5, mN, hC, hN, hni, T⟩ := O.obj
  have hA := ha cpos pins s σ H (fun vs H1 => vs.length ≤ sizeLine ∧ XE X G (.ref C) none H1) I ⟨ρ, Hi, R, finOf R h fun ds Hi' H' _ e1 h' vs r => by
    have h' : Fin X G Hi' E (if ds.length ≤ 16777216 then (.err c : Res Fl) else .no) := h'
    by_cases hz : ds.length ≤ 16777216
    · rw [if_pos hz] at h'
      exact ⟨by rw [r.length]; exact hz, c, O.bound, h' Hi' H' (R.ext.trans e1)⟩
    · rw [if_neg hz] at h'; exact h'.elim⟩
  refine wpAny_Raise_call_subT (C := C) (nm := nm) (q := q) (N := N) (bs := bs) (bm := tl) (hdct := hdct) (sn := sn) (sub := sub) (ab := ab) (col := col) (dd := dd) (k0 := k0) (k1 := k1) (k2 := k2) (k3 := k3) (k5 := k5)
    FB (mN := mN) (T.hasType FB.hasBase) (I.ok.hd W.calm) (by rw [he]; show (false || (backTo cpos (starEach es X.env)).any (·.1)) = false; rw [hplain]; rfl) hni (ld_glob I hg O.bound ⟨rfl, ?_⟩ hd)
  rw [he] at hA ⊢
  refine Calls.evalArgs_plain (wpAny_mono hA (fun us s₂ h₂ => ?_) fun _ _ y => y)
  obtain ⟨vs, H2, I2, rv, hz, hx⟩ := h₂
  exact ⟨rfl, by show us.length ≤ sizeLine; rw [← rv.length]; exact hz, I2.bk _ _ hC, hN.keeps I2.bk, T.keeps I2.bk, fun h' ea hm => WR pins σ H2 s₂ { s₂ with heap := h' } ea (.ref C) us I2 hm rfl I2.bare hx⟩
end
end L3

namespace L3
open PySem PySem.Spec PyProof.Rows L2 PySem.W Builtin Builtin.ObjectAttr Builtin.Getset_descriptor
unseal PEd PEf PTd PWd PAd PSd PSsd POd PGd PGsd PId
/-! ### the class of an error, and isinstance -/
section
variable {prog : Program} {w : World} {A : Around} {E : Value → Shared → Prop} {s : Shared} {K : Frag} {x D : Addr} {ox : Obj}
/-- at x stands an object of the class D -/
noncomputable def TyAt (x D : Addr) (h : Heap) : Prop := ∃ o, h.get? x = some o ∧ o.cls = .ref D
theorem TyAt.looks {h : Heap} (I : TyAt x D h) {M : Model} : Looks M h (typeOf (.ref x)) (.ref D) := by
  obtain ⟨o, h1, h2⟩ := I
  exact h2 ▸ (Looks.ld h1).andThen .now
/-- a data descriptor is found whatever the object's own dict holds -/
theorem looks_data {h : Heap} {M : Model} {self : Value} {name : Str} {a g : Value} (X : K.In h) (ha : findIn K (.ref D) name = some (some a)) (hg : specialIn K a "__get__" = some (some g)) (ht : takesIn K a = some true) :
    Looks M h (Builtin.ObjectAttr.find self (.ref D) name) (.bind g a) := by
  have L1 := looks_findIn (M := M) X ha
  have L2 := looks_specialIn (M := M) X hg
  have L3 := looks_takesIn (M := M) X ht
  refine L1.andThen (L2.andThen ?_)
  intro A' Q' E' s' k q
  unfold Builtin.ObjectAttr.dataDescriptor?
  refine wpAny_bind (wpAny_bind (L3 A' _ E' s' k ?_))
  exact wpAny_pure (wpAny_bind (wpAny_rule (wpAny_pure q)))
/-- the descriptor's own call -/
theorem class_read {R : Result → Shared → Prop} {tp : Value} (X : K.In s.heap) (I : TyAt x D s.heap) (hm : mroIn K D (.type "object") = some true) (h : R (.ok (.ret (.ref D))) s) :
    codeAny (model prog w) A (.call (.builtin "getset_descriptor.__get__") ⟨[.builtin "object.__class__", .ref x, tp], []⟩) R s := by
  obtain ⟨hh, gg, dr, tt, oo⟩ := s
  have L0 := I.looks (M := model prog w)
  have L1 := looks_mroIn (M := model prog w) X hm
  refine codeAny_call_builtin KF.slot_gs.plain KF.entry_gs (KF.slot_gs.check _ _ _ _ _ _ _ _ KF.type_class (KF.args_gs _ _ _) ?_)
  unfold Builtin.«getset_descriptor.__get__» descrGet
  rw [dga_obj]
  refine wpAny_bind (wpAny_pure ?_)
  unfold descrGetter descrCheckInstance descrNameAndClass isInstance
  simp only [KF.owner_class]
  repeat lk
  refine ⟨Code.quiet_builtin _ (by decide +kernel), codeAny_builtin KF.entry_class ?_⟩
  unfold Builtin.«object.__class__» shownTypeOf
  repeat lk
  exact h
/-- what is asked of an error class D -/
structure ExK (K : Frag) (D : Addr) : Prop where
  hc : (clsIn K D).isSome = true
  ga : findIn K (.ref D) "__getattribute__" = some (some (.builtin "BaseException.__getattribute__"))
  no : findIn K (.ref D) "__getattr__" = some none
  ha : findIn K (.ref D) "__class__" = some (some (.builtin "object.__class__"))
  hn : specialIn K (.builtin "object.__class__") "__get__" = some (some (.builtin "getset_descriptor.__get__"))
  tk : takesIn K (.builtin "object.__class__") = some true
  mo : mroIn K D (.type "object") = some true
  mb : mroIn K D (.type "BaseException") = some true
theorem exc_class (T : ExK K D) {Q : Option Value → Shared → Prop} (X : K.In s.heap) (I : TyAt x D s.heap) (h : Q (some (.ref D)) { s with toks := s.toks + 1 }) :
    wpAny (model prog w) A (getAttr? (.ref x) "__class__") Q E s := by
  obtain ⟨hh, g, d, t, os⟩ := s
  have L0 := I.looks (M := model prog w)
  have L1 := looks_findIn (M := model prog w) X T.ga
  have L2 := looks_findIn (M := model prog w) X T.no
  have L3 := looks_data (M := model prog w) (self := .ref x) X T.ha T.hn T.tk
  have L4 := looks_mroIn (M := model prog w) X T.mb
  unfold getAttr? getAttrBy? getAttrBy
  refine wpAny_bind (wpAny_mkText (wpAny_bind (wpAny_attempt (wpAny_holding (wpAny_bind (L0.at (wpAny_bind (L1.at ?_))))))))
  have hx2 : (Value.builtin "BaseException.__getattribute__" == Value.builtin "object.__getattribute__") = false := by decide +kernel
  show wpAny _ _ (if (onTheHeap (.ref D) && Value.builtin "BaseException.__getattribute__" == Value.builtin "object.__getattribute__") = true then _ else _) _ _ _
  rw [hx2, Bool.and_false, if_neg Bool.false_ne_true]
  unfold getAttrByItsOwn hookBefore
  refine wpAny_bind ?_
  show wpAny _ _ (typeLookup (.ref D) "__getattr__") _ _ _
  refine L2.at ?_
  refine wpAny_bind (wpAny_attempt (wpAny_holding ?_))
  unfold callGetattribute boundAndCalled
  have f3 := F.excAttr_ValueError.ga.bind (.ref x)
  show wpAny _ _ (bindSpecial (.builtin "BaseException.__getattribute__") (.ref x) >>= _) _ _ _
  rw [f3]
  refine wpAny_bind (wpAny_pure ?_)
  have hk : builtinKind "BaseException.__getattribute__" = some .slot := by decide +kernel
  have hsplit : splitId "BaseException.__getattribute__" = some ("BaseException", "__getattribute__") := by decide +kernel
  refine wpAny_call (codeAny_call_builtin F.excAttr_ValueError.ga.plain F.entry_bexc_ga ?_)
  have ha := F.args_bexc_ga (.ref x) (.str "__class__" t)
  simp only [checkBuiltinCall, hk, hsplit]
  refine wpAny_bind ?_
  unfold isInstance
  refine wpAny_bind ?_
  refine L0.at ?_
  refine L4.at ?_
  rw [if_neg (by decide)]
  repeat (first | assumption | wp_step)
  obtain ⟨ox, hx, hcl⟩ := I
  refine wpAny_loadPart_at hx ?_
  rw [hcl]
  refine wpAny_pure ?_
  refine wpAny_bind ?_
  refine L3.at ?_
  show wpAny _ _ (Builtin.ObjectAttr.bindTo (.builtin "getset_descriptor.__get__") (.builtin "object.__class__") (.ref x) (.ref D)) _ _ _
  unfold Builtin.ObjectAttr.bindTo
  show wpAny _ _ (do
      let v ← holding [Value.builtin "object.__class__"] (call (.builtin "getset_descriptor.__get__") [.builtin "object.__class__", .ref x, .ref D])
      ret v) _ _ _
  refine wpAny_bind (wpAny_holding (wpAny_call (class_read X ⟨ox, hx, hcl⟩ T.mo ?_)))
  refine wpAny_pure ?_
  exact handed_on rfl (wpAny_pure h)
/-- isinstance of an error -/
theorem kitx_exc (T : ExK K D) : KitX K (.ref x) (.ref D) (TyAt x D) where
  ty := fun _ _ _ I => I.looks
  it := fun _ _ X _ => by
    obtain ⟨cd, hcD⟩ := Option.isSome_iff_exists.mp T.hc
    unfold clsIn at hcD
    split at hcD
    · rename_i c' d' cd' sl' ho
      intro A' Q' E' s' k q
      unfold isType loadHead
      exact wpAny_bind (wpAny_loadPart (k _ _ (X _ _ ho)) (wpAny_pure q))
    · cases hcD
  ne := fun h tp dd its n sl X htp => by
    obtain ⟨cd, hcD⟩ := Option.isSome_iff_exists.mp T.hc
    refine Bool.eq_false_iff.mpr fun q => ?_
    have e : D = tp := Value.ref.inj (beq_iff_eq.mp q)
    subst e
    unfold clsIn at hcD
    split at hcD
    · rename_i c' d' cd' sl' ho
      have z := (X _ _ ho).symm.trans htp
      cases z
    · cases hcD
  ca := fun X I k => exc_class T X I k
end
end L3

namespace L3
open PySem PySem.Spec PyProof.Rows L2 PySem.W
unseal PEd PEf PTd PWd PAd PSd PSsd POd PGd PGsd PId
section
variable {prog : Program} {w : World} {A : Around} {E : Value → Shared → Prop} {s : Shared} {K : Frag} {x C CE : Addr} {ox : Obj}
/-- what is asked of the class behind except -/
structure CaK (K : Frag) (CE : Addr) : Prop where
  ty : typeIn K (.ref CE) = some (.type "type")
  cl : (clsIn K CE).isSome = true
  mb : mroIn K CE (.type "BaseException") = some true
theorem exc_match (T : CaK K CE) (hm : mroIn K C (.ref CE) = some true) {Q : Bool → Shared → Prop} (X : K.In s.heap) (I : TyAt x C s.heap) (h : Q true s) : wpAny (model prog w) A (excMatches (.ref x) (.ref CE)) Q E s := by
  obtain ⟨hh, g, d, t, os⟩ := s
  have L0 := I.looks (M := model prog w)
  have L1 := looks_typeIn (M := model prog w) X T.ty
  have L2 := looks_mroIn (M := model prog w) X T.mb
  have L3 := looks_mroIn (M := model prog w) X hm
  have Lt : Looks (model prog w) hh (isType (.ref CE)) true := by
    obtain ⟨cd, hcD⟩ := Option.isSome_iff_exists.mp T.cl
    unfold clsIn at hcD
    split at hcD
    · rename_i c' d' cd' sl' ho
      intro A' Q' E' s' k q
      unfold isType loadHead
      exact wpAny_bind (wpAny_loadPart (k _ _ (X _ _ ho)) (wpAny_pure q))
    · cases hcD
  unfold excMatches isInstance isExcClass
  refine wpAny_bind (wpAny_bind ?_)
  refine L1.at ?_
  refine wpAny_of_eq tc_notTuple ?_
  show wpAny _ _ (forIn [Value.ref CE] PUnit.unit _ >>= _) _ _ _
  rw [List.forIn_cons]
  refine wpAny_bind (wpAny_bind (wpAny_bind (wpAny_bind ?_)))
  refine Lt.at ?_
  show wpAny _ _ (isSubtype (.ref CE) (.type "BaseException")) _ _ _
  refine L2.at ?_
  refine wpAny_pure ?_
  show wpAny _ _ (forIn ([] : List Value) PUnit.unit _) _ _ _
  rw [List.forIn_nil]
  refine wpAny_pure ?_
  refine wpAny_bind ?_
  refine L0.at ?_
  refine wpAny_bind ?_
  rw [List.forIn_cons]
  refine wpAny_bind (wpAny_bind ?_)
  refine L3.at ?_
  repeat (first | exact h | wp_step)
end
end L3

namespace L3
open PySem PySem.Spec PyProof.Rows L2 PySem.W
unseal PEd PEf PTd PWd PAd PSd PSsd POd PGd PGsd PId
/-! ### try: the state behind an error that was caught -/
section
variable {X : Cx} {pins : List (Addr × Obj)} {σ : St} {H H' : Hp} {s s' : Shared} {ea : Addr} {cls : Value}
theorem Fly.stay (I : Inv X pins σ H s) (F : Fly X.prog X.w X.stack H H' s ea cls s') {h' B : Heap} {a0 : Value}
    (hf : Heap.FlyingW B X.stack ea cls a0 s'.heap) (cov : ∀ b o, s'.heap.get? b = some o → ((∃ o', s.heap.get? b = some o') ∨ H' b ≠ none) → b ∉ frs X.stack → B.get? b = some o)
    (hf' : Heap.FlyingW B X.stack ea cls a0 h') (up : s'.heap.UpToSlots h') {t' : Nat} : Inv X pins σ H' { s' with heap := h', toks := t' } := by
  have trk : ∀ {b : Addr}, H' b ≠ none → b ∉ frs X.stack := fun {b} hb hm => by
    have h1 := I.stkFree b hm
    obtain ⟨_, o, ho, _⟩ := I.stack.mem hm
    exact hb (F.un.free b o ho h1 (by simp))
  have keepB : ∀ {b : Addr} {o : Obj}, s'.heap.get? b = some o → ((∃ o', s.heap.get? b = some o') ∨ H' b ≠ none) → b ∉ frs X.stack → h'.get? b = some o := fun e1 e2 e3 => hf'.1 _ _ (cov _ _ e1 e2 e3)
  have slotOf : ∀ {b : Addr} {o : Obj}, b ∈ frs X.stack → s'.heap.get? b = some o → ∃ sl, h'.get? b = some { o with slots := sl } := fun {b o} hm e => by
    obtain ⟨_, o', ho', hn⟩ := hf.2.2.1.mem hm
    rw [e] at ho'; cases ho'
    exact up b o e hn
  refine I.call' (s' := { s' with heap := h', toks := t' }) (ch := []) F.os ⟨?_, ?_, F.un.free, ?_, F.un.tups, F.un.frzs, F.un.tbls⟩ ?_ F.bare (fun b z => absurd z (by simp))
  · intro b o e n hb hx
    exact keepB (F.un.keep b o e n hb hx) (.inl ⟨o, e⟩) hb
  · intro b o e n hb hx
    obtain ⟨sl, e1⟩ := F.un.slot b o e n hb hx
    obtain ⟨sl2, e2⟩ := slotOf hb e1
    exact ⟨sl2, e2⟩
  · intro b o e hx
    obtain ⟨o1, e1⟩ := F.un.there b o e hx
    by_cases hs : b ∈ frs X.stack
    · obtain ⟨sl, e3⟩ := slotOf hs e1
      exact ⟨_, e3⟩
    · exact ⟨o1, keepB e1 (.inl ⟨o, e⟩) hs⟩
  · intro a o e
    refine (F.hok a o e).stay (fun b u hb z => ?_) (fun b z => z) (fun b xs z => z)
    have hb' : H' b ≠ none := by
      rcases hb with rfl | hb
      · rw [e]; simp
      · rw [hb]; simp
    exact keepB z (.inr hb') (trk hb')
/-- an untracked object of one's own is tracked from here on -/
theorem _root_.L2.Inv.track (I : Inv X pins σ H s) {a : Addr} {o : HO} (hn : H a = none) (h0 : X.s₀.heap.get? a = none) (hl : a ≠ X.env.locals) (hc : ∀ x c, X.env.cells.lookup x = some c → c ≠ a) (hp : ∀ p ∈ X.pn ++ pins, p.1 ≠ a)
    (ho : ObjOk X.prog X.w (upd H a o) s.heap a o) : Inv X pins σ (upd H a o) s where
  ok := I.ok
  os := I.os
  bare := I.bare
  base := ⟨I.base.keep, I.base.slot, fun b ob e n hx => by
      have : b ≠ a := fun z => by rw [z, h0] at e; cases e
      rw [upd_ne this]; exact I.base.free b ob e n hx, I.base.there, fun b xs e => by
      have z := I.base.tups b xs e
      rw [upd_ne (ne_of_none z hn)]; exact z, fun b ob u e => by
      have z := I.base.frzs b ob u e
      rw [upd_ne (ne_of_none z hn)]; exact z, fun b ps e => by
      obtain ⟨m, z⟩ := I.base.tbls b ps e
      exact ⟨m, by rw [upd_ne (ne_of_none z hn)]; exact z⟩⟩
  loc := I.loc
  cell := I.cell
  free := by rw [upd_ne (Ne.symm hl)]; exact I.free
  freeC := fun x c e => by rw [upd_ne (hc x c e)]; exact I.freeC x c e
  pin := fun p hp' => by
    obtain ⟨e1, e2, e3, e4, e5⟩ := I.pin p hp'
    exact ⟨e1, by rw [upd_ne (hp p hp')]; exact e2, e3, e4, e5⟩
  hok := fun b u e => by
    by_cases hb : b = a
    · subst hb; rw [upd_same] at e; cases e; exact ho
    · rw [upd_ne hb] at e
      exact (I.hok b u e).stay (fun c v _ q => q) (fun c q => by rw [upd_ne (ne_of_none q hn)]; exact q) fun c xs q => by rw [upd_ne (ne_of_none q hn)]; exact q
  len := I.len
/-- the name behind «as» goes -/
theorem goes_ok {M : Model} {A : Around} {E : Value → Shared → Prop} {i : Nat} {n : Str} {pos : Pos} {Q : Unit → Shared → Prop} (I : Inv X pins σ H s) (hN : X.N.Nodup) (hi : X.N[i]? = some n) (hk : X.env.scope.names.lookup n = some .local)
    (h : ∀ s', Inv X pins (σ.set i none) H s' → Q () s') : wpAny M A (do bindName X.env n .none; unbindBehindTheSuite X.env n pos) Q E s := by
  obtain ⟨m, hn, hl⟩ := id I.loc
  have hcls : (X.env.scope.kind == .class || (X.env.scope.kind == .module && X.env.locals != X.env.globals)) = false := by rw [I.ok.kind]; rfl
  have hiσ : i < σ.length := by rw [I.len]; exact (List.getElem?_eq_some_iff.mp hi).1
  have cne := I.cne
  refine wpAny_nameGoes_keeps hk hn hcls fun h' v hn' hs => ?_
  obtain ⟨oL, _, _, hoL, _⟩ := id hn
  refine h _ ⟨I.ok, I.os, I.bare, ⟨fun b o e n hb hx => ?_, fun b o e n hb hx => ?_, I.base.free, fun b o e hx => ?_, I.base.tups, I.base.frzs, I.base.tbls⟩, ⟨_, hn', fun j y v' e1 e2 e3 => ?_⟩, fun y c e => ?_, I.free, I.freeC, fun p hp => ?_, ?_, by simpa using I.len⟩
  · exact (hs.2 b (Nat.ne_of_lt (Nat.lt_of_lt_of_le (Heap.lt_size e) I.ok.above))).trans (I.base.keep b o e n hb hx)
  · obtain ⟨sl, e1⟩ := I.base.slot b o e n hb hx
    exact ⟨sl, (hs.2 b (Nat.ne_of_lt (Nat.lt_of_lt_of_le (Heap.lt_size e) I.ok.above))).trans e1⟩
  · obtain ⟨o', e1⟩ := I.base.there b o e hx
    exact ⟨o', (hs.2 b (Nat.ne_of_lt (Nat.lt_of_lt_of_le (Heap.lt_size e) I.ok.above))).trans e1⟩
  · by_cases hj : j = i
    · subst hj
      rw [List.getElem?_set_self hiσ] at e2
      cases e2
    · rw [List.getElem?_set_ne (Ne.symm hj)] at e2
      obtain ⟨u', r', q⟩ := hl j y v' e1 e2 e3
      refine ⟨u', r', ?_⟩
      rcases q with ⟨k, e⟩ | ⟨k, c, e, z⟩
      · refine .inl ⟨k, ?_⟩
        have : y ≠ n := fun e => hj (nodup_ix hN e1 (e ▸ hi))
        simp [this, e]
      · exact .inr ⟨k, c, e, z.sameBut hs (cne y c e)⟩
  · obtain ⟨w', z⟩ := I.cell y c e
    exact ⟨w', z.sameBut hs (cne y c e)⟩
  · obtain ⟨e, n, ne, nf, d⟩ := I.pin p hp
    exact ⟨(hs.2 p.1 ne).trans e, n, ne, nf, d⟩
  · intro b ob e
    refine (I.hok b ob e).stay (fun c w' hc q => (hs.2 c ?_).trans q) (fun _ q => q) fun _ _ q => q
    rintro rfl
    have hfree := I.free
    rcases hc with rfl | hc
    · rw [hfree] at e; cases e
    · rw [hfree] at hc; cases hc
/-- within the clause -/
noncomputable abbrev inClause (X : Cx) (ea : Addr) : Cx := { X with A := X.A.mark (some (.ref ea)), calm := false, xe := fun _ _ => False }
theorem _root_.L2.Inv.clause (I : Inv X pins σ H s) (ea : Addr) : Inv (inClause X ea) pins σ H s :=
  ⟨⟨I.ok.mod, I.ok.kind, I.ok.glob, I.ok.blt, I.ok.above, I.ok.inj, I.ok.has, I.ok.cab, (fun z => Bool.noConfusion z), I.ok.frames, I.ok.stk, I.ok.exf, I.ok.bs, I.ok.bsz, I.ok.noex, I.ok.exfs, I.ok.funs, I.ok.frf⟩, I.os, I.bare, I.base, I.loc, I.cell, I.free, I.freeC, I.pin, I.hok, I.len⟩
theorem _root_.L2.Inv.unclause {ea : Addr} (ok : X.Ok) (I : Inv (inClause X ea) pins σ H s) : Inv X pins σ H s := ⟨ok, I.os, I.bare, I.base, I.loc, I.cell, I.free, I.freeC, I.pin, I.hok, I.len⟩
end
end L3

namespace L3
open PySem PySem.Spec PyProof.Rows L2 PySem.W
unseal PEd PEf PTd PWd PAd PSd PSsd POd PGd PGsd PId
/-! ### try -/
section
variable {X : Cx} {G : Gx} {a e : Expr} {es : List Expr} {pos p : Pos} {fs : Fv} {t : Tv} {x : Str} {k : Nat} {ps : List Str} {m : Mir} {st : Stmt} {sts : List Stmt} {sa sb : Sv}
noncomputable def G0 (G : Gx) : Gx := { G with E := fun _ _ => False }
/-- an error of the class c has come out of a call -/
noncomputable def Came (X : Cx) (pins : List (Addr × Obj)) (σ : St) (Hi H : Hp) (c : Str) (ev : Value) (s' : Shared) : Prop :=
  ∃ (s1 : Shared) (H1 : Hp) (ea : Addr) (cls : Value) (Hi' H' : Hp), ev = .ref ea ∧ Inv X pins σ H1 s1 ∧ X.mg c = some cls ∧ Fly X.prog X.w X.stack H1 H' s1 ea cls s' ∧ Ext Hi H Hi' H' ∧ Same H H1
/-- the end of a body of try; errors apart -/
noncomputable def FinT (X : Cx) (G : Gx) (Hi : Hp) (E : Ends) (r : Res Fl) : Prop := match r with
  | .err _ => True
  | r => Fin X G Hi E r
@[irreducible] noncomputable def PSx (X : Cx) (G : Gx) (st : Stmt) (f : Sv) : Prop := ∀ (pins : List (Addr × Obj)) (s : Shared) (σ : St) (H : Hp) (E : Ends) (ρ : Rho) (Hi : Hp) (Et : Value → Shared → Prop),
  Inv X pins σ H s → RelX X G Hi H σ ρ → f ρ ≠ .no → FinT X G Hi E (f ρ) → (∀ c ev s', f ρ = .err c → Came X pins σ Hi H c ev s' → Et ev s') → wpAny (model X.prog X.w) X.A (exec st X.env) (SP X pins E) Et s
unseal PSx
@[irreducible] noncomputable def PSsx (X : Cx) (G : Gx) (sts : List Stmt) (f : Sv) : Prop := ∀ (pins : List (Addr × Obj)) (s : Shared) (σ : St) (H : Hp) (E : Ends) (ρ : Rho) (Hi : Hp) (Et : Value → Shared → Prop),
  Inv X pins σ H s → RelX X G Hi H σ ρ → f ρ ≠ .no → FinT X G Hi E (f ρ) → (∀ c ev s', f ρ = .err c → Came X pins σ Hi H c ev s' → Et ev s') → wpAny (model X.prog X.w) X.A (execs sts X.env) (SP X pins E) Et s
unseal PSsx
theorem x_one (h : PSx X G st sa) : PSsx X G [st] sa := fun pins s σ H E ρ Hi Et I R hn hf he => by
  refine wpAny_execs_cons (wpAny_mono (h pins s σ H E ρ Hi Et I R hn hf he) (fun f s1 q => ?_) fun _ _ z => z)
  cases f with
  | next => exact wpAny_execs_nil q
  | ret v => exact q
  | brk => exact q
  | cont => exact q
/-- a call in a body of try -/
theorem run_x {pins : List (Addr × Obj)} {s : Shared} {σ : St} {H : Hp} {ρ : Rho} {Hi : Hp} {Et : Value → Shared → Prop} {Q : VK} {ds : List D} (c : CanM X.prog X.w X.K X.mg X.base k x ps m) (hr : Room k X.A) (hg : Gl X x) (ha : PAd X.nox (G0 G) (e :: es) fs)
    (I : Inv X pins σ H s) (R : RelX X G Hi H σ ρ) (hds : fs ρ = .ok ds) (hm : m ds ≠ .no) (hq : ∀ r v Hi' H', m ds = .ok r → Ext Hi H Hi' H' → IsD X.K Hi' v r.d → Q v H') (he : ∀ c ev s', m ds = .err c → Came X pins σ Hi H c ev s' → Et ev s')
    (hdb : (x == ("__debug__" : Str)) = false) (hst : starEach (e :: es) X.env = (false, eval e X.env) :: starEach es X.env) (hpl : (backTo pos (starEach es X.env)).any (·.1) = false) :
    wpAny (model X.prog X.w) X.A (eval (.Call (.Name x p) (e :: es) [] pos) X.env) (EP X pins σ Q) Et s := by
  obtain ⟨⟨f, fd, F, b, kp, hmg⟩, ln⟩ := c
  refine wpAny_Call_Name_kw (ld_glob I hg hmg ?_ hdb)
  have hA := ha pos pins s σ H (fun vs H1 => ∃ Hi1, Ext Hi H Hi1 H1 ∧ IsDs X.K Hi1 vs ds) (I.wish _) ⟨ρ, Hi, R, by rw [hds]; exact fun Hi1 H1 e1 vs r => ⟨Hi1, e1, r⟩⟩
  refine PySem.W.callWith_K (h₀ := X.base) I.ok.mod.kin kp (wpAny_mono hA (fun us s1 q => ?_) fun _ _ z => False.elim z) hst hpl
  obtain ⟨vs, H1, I1', r, Hi1, e1, hd⟩ := q
  have I1 : Inv X pins σ H1 s1 := I1'.unwish
  refine ⟨I1.kIn, ?_⟩
  have hl : us.length = ps.length := by rw [← r.length, hd.length]; exact ln ds hm
  refine wpAny_call (codeAny_mono (F.run X.A X.stack s1 H1 ⟨us, []⟩ us vs (fun v H2 => Q v H2) (fun cls _ H2 => ∃ c Hi2, X.mg c = some cls ∧ m ds = .err c ∧ Ext Hi1 H1 Hi2 H2) hr I1.env0 (by have := b s1 us I1.kIn (by rw [List.append_nil]; exact hl); rwa [List.append_nil] at this) r ?_) fun res s' hq' => ?_)
  · refine ⟨by rw [hd.length]; exact ln ds hm, Hi1, ds, e1.s, hd, ?_⟩
    cases z : m ds with
    | no => exact absurd z hm
    | err c' => exact fun C hC Hi2 H2 e2 => ⟨c', Hi2, hC, rfl, e2⟩
    | ok rr =>
      cases rr with
      | v d => exact fun v Hi2 H2 e2 r2 => hq _ v Hi2 H2 z (e1.trans e2) r2
      | f es =>
        intro a' Hi2 H2 e2 n
        obtain ⟨n1, n2, xs, n3, n4⟩ := n
        exact hq _ (.ref a') (upd Hi2 a' (.lst xs)) H2 z (e1.trans (e2.hold n1 n3 n2)) (.lst (SqL.of upd_same) (n4.mono (same_new' n2 _)))
  · cases res with
    | error ev =>
      obtain ⟨ea, cls, H', rfl, Fl, c', Hi2, hc, hmc, e2⟩ := hq'
      exact he c' _ s' hmc ⟨s1, H1, ea, cls, Hi2, H', rfl, I1, hc, Fl, e1.trans e2, e1.h⟩
    | ok fl =>
      cases fl with
      | ret u => exact I1.after hq'
      | next => exact False.elim hq'
      | brk => exact False.elim hq'
      | cont => exact False.elim hq'
theorem noErr_ok {α : Type} {r : Res α} {β : Type} {f : α → Res β} (h : (noErr r).bind f ≠ .no) : ∃ a, r = .ok a ∧ (noErr r).bind f = f a := by
  cases r with
  | ok a => exact ⟨a, rfl, rfl⟩
  | err c => exact absurd rfl h
  | no => exact absurd rfl h
theorem x_set {i : Nat} {y : Str} {py pos2 : Pos} (hN : X.N.Nodup) (hi : X.N[i]? = some y) (hy : Loc X.env.scope y) (W : Good X G k) (c : CanM X.prog X.w X.K X.mg X.base k x ps m) (hg : Gl X x) (ha : PAd X.nox (G0 G) (e :: es) fs)
    (hdb : (x == ("__debug__" : Str)) = false := by decide) (hst : starEach (e :: es) X.env = (false, eval e X.env) :: starEach es X.env := by rfl) (hpl : (backTo pos (starEach es X.env)).any (·.1) = false := by rfl)
    (hs2 : swapsWith (.Call (.Name x p) (e :: es) [] pos) (some (.Name y py)) pos2.line X.env = pure false := by rfl) (hfn : X.fn y = true ∨ X.env.scope.names.lookup y = some .local := by first | exact .inl rfl | exact .inr rfl | assumption) :
    PSx X G (.Assign [.Name y py] (.Call (.Name x p) (e :: es) [] pos) pos2) (xSet i m fs) := fun pins s σ H E ρ Hi Et I R hn hf he => by
  unfold xSet at hn hf he
  obtain ⟨ds, hds, heq⟩ := noErr_ok hn
  rw [heq] at hn hf he
  have hm : m ds ≠ .no := fun z => by rw [z] at hn; exact hn rfl
  refine wpAny_Assign_Name (wpAny_mono (run_x (Q := fun v H' => E.nx (σ.set i (some v)) H') c W.room hg ha I R hds hm (fun r v Hi' H' z e1 rv => ?_) (fun c' ev s' z q => he c' ev s' (by rw [z]; rfl) q) hdb hst hpl) (fun v s1 q => ?_) fun _ _ z => z) hs2
  · rw [z] at hf
    exact (show Fin X G Hi E (.ok (.nx (ρ.set i (.val r.d)))) from hf) _ Hi' H' e1.i ((R.grow e1).set rv)
  · obtain ⟨v', H1, I1, r1, q1⟩ := q
    exact store_ok I1 hN hi hy r1 (fun s2 I2 => ⟨_, H1, I2, q1⟩) hfn
theorem x_if {c : Expr} {as bs : List Stmt} (hc : PTd X.nox (G0 G) c t) (ha : PSsx X G as sa) (hb : PSsx X G bs sb) : PSx X G (.If c as bs pos) (xIf t sa sb) := fun pins s σ H E ρ Hi Et I R hn hf he => by
  unfold xIf at hn hf he
  obtain ⟨b, hb', heq⟩ := noErr_ok hn
  rw [heq] at hn hf he
  have hT := hc pins s σ H (fun b' H1 => b' = b ∧ ∃ Hi1, Ext Hi H Hi1 H1) (I.wish _) ⟨ρ, Hi, R, by rw [hb']; exact fun Hi1 H1 e1 => ⟨rfl, Hi1, e1⟩⟩
  refine wpAny_If (wpAny_mono hT (fun b' s1 q => ?_) fun _ _ z => False.elim z)
  obtain ⟨H1, I1', rfl, Hi1, e1⟩ := q
  have I1 : Inv X pins σ H1 s1 := I1'.unwish
  have R1 := R.grow e1
  have cm : ∀ c ev s', Came X pins σ Hi1 H1 c ev s' → Came X pins σ Hi H c ev s' := fun c ev s' q => by
    obtain ⟨s2, H2, ea, cls, Hi', H', q1, q2, q3, q4, q5, q6⟩ := q
    exact ⟨s2, H2, ea, cls, Hi', H', q1, q2, q3, q4, e1.trans q5, e1.h.trans q6⟩
  have up : ∀ r, FinT X G Hi E r → FinT X G Hi1 E r := fun r z => by
    cases r with
    | err c => trivial
    | ok f => exact Fin.mono (show Fin X G Hi E (.ok f) from z) e1.i
    | no => exact z
  cases b' with
  | true => exact ha pins s1 σ H1 E ρ Hi1 Et I1 R1 hn (up _ hf) fun c ev s' z q => he c ev s' z (cm c ev s' q)
  | false => exact hb pins s1 σ H1 E ρ Hi1 Et I1 R1 hn (up _ hf) fun c ev s' z q => he c ev s' z (cm c ev s' q)
end
end L3

namespace L3
open PySem PySem.Spec PyProof.Rows L2 PySem.W
unseal PEd PEf PTd PWd PAd PSd PSsd POd PGd PGsd PId PSx PSsx
section
variable {X : Cx} {G : Gx} {k : Nat} {fb fh : Sv} {body suite : List Stmt} {b₀ : Stmt} {ce n : Str} {np hpos pos : Pos} {i : Nat} {tb : List Str}
/-- what is asked of the error class c under the class ce behind except -/
noncomputable def Cat (K : Frag) (mg : Str → Option Value) (ce c : Str) : Prop := ∃ C CE, mg c = some (.ref C) ∧ mg ce = some (.ref CE) ∧ ExK K C ∧ CaK K CE ∧ mroIn K C (.ref CE) = some true
structure GoodH (X : Cx) : Prop where
  u : X.A.units + 64 < cLine
/-- a name is bound to an error -/
theorem Rel.setExc {K : PySem.W.Frag} {mg : Str → Option Value} {B Bi Hi H : Hp} {σ : St} {ρ : Rho} {a C : Addr} {c : Str} (R : Rel K mg B Bi Hi H σ ρ) (hn : H a = none) (hB : B a = none) (hc : mg c = some (.ref C)) :
    Rel K mg B Bi Hi (upd H a (.ext (excAt a C))) (σ.set i (some (.ref a))) (ρ.set i (.exc c)) where
  len := by rw [List.length_set, List.length_set]; exact R.len
  ext := R.ext.trans (Ext.newF R.s hn)
  slot := fun j s q => by
    by_cases z : i = j
    · subst z
      by_cases hl : i < ρ.length
      · rw [List.getElem?_set_self hl] at q; cases q
        exact ⟨a, C, by rw [List.getElem?_set_self (by rw [R.len]; exact hl)], upd_same, R.s.none hn, hB, hc⟩
      · rw [List.getElem?_eq_none (by rw [List.length_set]; omega)] at q; cases q
    · rw [List.getElem?_set_ne z] at q ⊢
      exact (R.slot j s q).ext (Ext.newF R.s hn)
  dist := fun j l b es fs q1 q2 q3 q4 => by
    have nx : ∀ {j : Nat} {es : List D}, (ρ.set i (.exc c))[j]? = some (.own es) → i ≠ j := fun {j es} q e => by
      subst e
      by_cases hl : i < ρ.length
      · rw [List.getElem?_set_self hl] at q; cases q
      · rw [List.getElem?_eq_none (by rw [List.length_set]; omega)] at q; cases q
    have n1 := nx q1
    have n2 := nx q2
    rw [List.getElem?_set_ne n1] at q1 q3
    rw [List.getElem?_set_ne n2] at q2 q4
    exact R.dist j l b es fs q1 q2 q3 q4
/-- a name goes -/
theorem Rel.gone {K : PySem.W.Frag} {mg : Str → Option Value} {B Bi Hi H : Hp} {σ : St} {ρ : Rho} (R : Rel K mg B Bi Hi H σ ρ) : Rel K mg B Bi Hi H (σ.set i none) (ρ.set i .un) where
  len := by rw [List.length_set, List.length_set]; exact R.len
  ext := R.ext
  slot := fun j s q => by
    by_cases z : i = j
    · subst z
      by_cases hl : i < ρ.length
      · rw [List.getElem?_set_self hl] at q; cases q; trivial
      · rw [List.getElem?_eq_none (by rw [List.length_set]; omega)] at q; cases q
    · rw [List.getElem?_set_ne z] at q ⊢
      exact R.slot j s q
  dist := fun j l b es fs q1 q2 q3 q4 => by
    have nx : ∀ {j : Nat} {es : List D}, (ρ.set i .un)[j]? = some (.own es) → i ≠ j := fun {j es} q e => by
      subst e
      by_cases hl : i < ρ.length
      · rw [List.getElem?_set_self hl] at q; cases q
      · rw [List.getElem?_eq_none (by rw [List.length_set]; omega)] at q; cases q
    have n1 := nx q1
    have n2 := nx q2
    rw [List.getElem?_set_ne n1] at q1 q3
    rw [List.getElem?_set_ne n2] at q2 q4
    exact R.dist j l b es fs q1 q2 q3 q4
theorem s_try (W : Good X G k) (O : Own X) (hT : ∀ c, tb.contains c = true → Cat X.K X.mg ce c) (hg : Gl X ce) (hN : X.N.Nodup) (hi : X.N[i]? = some n) (hk : X.env.scope.names.lookup n = some .local)
    (hb : PSsx X G body fb) (hh : ∀ ea, GoodH (inClause X ea) → PSsd (inClause X ea) (G0 G) (b₀ :: suite) fh) (hd : (ce == ("__debug__" : Str)) = false := by decide) :
    PSd X G (.Try body [.ExceptHandler (some (.Name ce np)) (some n) (b₀ :: suite) hpos] [] [] pos) (sTry tb i fb fh) := by
  intro pins s σ H E I q
  obtain ⟨ρ, Hi, R, h⟩ := q
  unfold sTry at h
  have hno : fb ρ ≠ .no := fun z => by rw [z] at h; exact h
  refine wpAny_Try_except ?_
  refine wpAny_mono (hb pins s σ H E ρ Hi _ I R hno ?_ ?_) (fun f s1 q => ?_) fun _ _ z => z
  · cases z : fb ρ with
    | no => exact absurd z hno
    | err c => trivial
    | ok f => rw [z] at h; exact h
  · rintro c ev s' z ⟨s1, H1, ea, cls, Hi', H', rfl, I1, hc, F, e1, sm⟩
    rw [z] at h
    have h : Fin X G Hi E (if tb.contains c = true then (match fh (ρ.set i (.exc c)) with
      | .ok (.nx ρ') => .ok (.nx (ρ'.set i .un))
      | _ => .no) else .no) := h
    by_cases htb : tb.contains c = true
    · rw [if_pos htb] at h
      obtain ⟨C, CE, m1, m2, T1, T2, T3⟩ := hT c htb
      rw [m1] at hc
      cases hc
      obtain ⟨B, a0, hf, cov⟩ := F.fly
      have hst : X.stack = X.env :: X.outer := O.stk
      have hfr : X.A.frames = some (X.env :: X.outer) := by rw [I1.ok.frames, hst]
      have hf1 := hf
      rw [hst] at hf1
      refine wpAny_looks_onW hfr O.fr hf1 fun h4 held4 up4 => ?_
      refine wpAny_landsW held4 fun h5 fly5 up5 => ?_
      have up5' := up4.trans up5
      have fly5' : Heap.FlyingW B X.stack ea (.ref C) a0 h5 := by rw [hst]; exact fly5
      have I5 := Fly.stay I1 F hf cov fly5' up5' (t' := s'.toks)
      have tyAt : ∀ {h6 : Heap}, Heap.FlyingW B X.stack ea (.ref C) a0 h6 → TyAt ea C h6 := fun z => z.there
      refine wpAny_handleBy_cons (codeAny_handlers_test (ld_glob (X := inClause X ea) (I5.clause ea) hg m2 ?_ hd)) (by intro q; cases q)
      refine exc_match T2 T3 I5.kIn (tyAt fly5') ?_
      refine codeAny_handlers_suite_as ?_
      refine lands_againW fly5' fun h6 fly6 up6 => ?_
      have I6 := Fly.stay I1 F hf cov fly6 (up5'.trans up6) (t' := s'.toks)
      have hnew : s1.heap.get? ea = none := F.new
      have here : ∀ {b : Addr} {o : Obj}, s1.heap.get? b = some o → b ≠ ea := fun {b o} e z => by rw [z, hnew] at e; cases e
      have hs0 : X.s₀.heap.get? ea = none := by
        cases q : X.s₀.heap.get? ea with
        | none => rfl
        | some o =>
          obtain ⟨o1, e1⟩ := I1.there0 O q
          rw [hnew] at e1; cases e1
      have hloc : ea ≠ X.env.locals := by
        obtain ⟨_, ⟨o, _, _, ho, _⟩, _⟩ := I1.loc
        exact Ne.symm (here ho)
      have hcell : ∀ x c, X.env.cells.lookup x = some c → c ≠ ea := fun x c e => by
        obtain ⟨v, o, ho, _⟩ := I1.cell x c e
        exact here ho
      have hpin : ∀ p ∈ X.pn ++ pins, p.1 ≠ ea := fun p hp => here (I1.pin p hp).1
      obtain ⟨oe, vs, q1, q2, q3, _⟩ := fly6.first
      have I7 := I6.track (o := .ext (excAt ea C)) F.ne hs0 hloc hcell hpin ⟨⟨oe, vs, q1, q2, q3⟩, ⟨oe, q1⟩, fun g1 g2 ⟨o, vs, p1, p2, p3⟩ k => ⟨o, vs, k o p1, p2, p3⟩⟩
      have hB : G.B ea = none := by
        cases q : G.B ea with
        | none => rfl
        | some o =>
          have z1 := R.ext.h _ _ q
          have z2 := sm _ _ z1
          obtain ⟨ob, z3⟩ := (I1.hok ea o z2).here
          rw [hnew] at z3; cases z3
      have R7 := (R.grow e1).setExc (i := i) F.ne hB m1
      refine store_ok I7 hN hi (.inl hk) (v := .ref ea) rfl (fun s7 I8 => ?_) (.inr hk)
      have WH : GoodH (inClause X ea) := ⟨W.u⟩
      -- the clause's own end
      have hfin : ∃ ρ', fh (ρ.set i (.exc c)) = .ok (.nx ρ') ∧ Fin X G Hi E (.ok (.nx (ρ'.set i .un))) := by
        cases zz : fh (ρ.set i (.exc c)) with
        | no => rw [zz] at h; exact h.elim
        | err c' => rw [zz] at h; exact h.elim
        | ok fl =>
          rw [zz] at h
          cases fl with
          | nx ρ' => exact ⟨ρ', rfl, h⟩
          | brk ρ' => exact h.elim
          | ctn ρ' => exact h.elim
          | ret r => exact h.elim
      obtain ⟨ρ', zf, hend⟩ := hfin
      have hE := hh ea WH pins s7 (σ.set i (some (.ref ea))) _ { nx := fun σ' H2 => E.nx (σ'.set i none) H2, rt := fun _ _ => False } (I8.clause ea) ⟨ρ.set i (.exc c), Hi', R7, by
        rw [zf]
        exact fun σ2 Hi2 H2 s2 R2 => hend (σ2.set i none) Hi2 H2 (e1.i.trans s2) (Rel.gone (i := i) (show RelX X G Hi2 H2 σ2 ρ' from R2))⟩
      refine wpAny_mono hE (fun fl s8 q => ?_) fun _ _ z => False.elim z
      cases fl with
      | next =>
        obtain ⟨σ2, H2, I9, q⟩ := q
        exact goes_ok (Inv.unclause I.ok I9) hN hi hk fun s9 I10 => ⟨_, H2, I10, q⟩
      | ret v => obtain ⟨_, _, _, _, _, q⟩ := q; exact q.elim
      | brk => obtain ⟨_, _, _, q⟩ := q; exact q.elim
      | cont => obtain ⟨_, _, _, q⟩ := q; exact q.elim
    · rw [if_neg htb] at h; exact h.elim
  · cases f with
    | next => exact wpAny_execs_nil q
    | ret v => exact q
    | brk => exact q
    | cont => exact q
end
end L3

namespace L3
open PySem PySem.Spec PyProof.Rows L2 PySem.W
unseal PEd PEf PTd PWd PAd PSd PSsd POd PGd PGsd PId PSx PSsx
/-! ### isinstance(e, C), isinstance(e, (C, ..)), e an error -/
/-- the class that a name means -/
noncomputable def ClsV (mg : Str → Option Value) (x : Str) (v : V) (cv : Value) : Prop := RelV v cv ∧ (mg x = some cv ∨ (mg x = none ∧ bootBuiltins x = some cv ∧ x ≠ "__name__"))
noncomputable def EK (K : Frag) (mg : Str → Option Value) (anc : List (Str × List Str)) (xs : List Str) : Prop :=
  ∀ c l, anc.lookup c = some l → ∃ C, mg c = some (.ref C) ∧ ExK K C ∧ ∀ x, xs.contains x = true → ∃ v cv, ClsV mg x v cv ∧ (∃ z, (v = .ref z ∨ ∃ T, v = .ty T)) ∧ kitOne K (.ref C) cv = some (l.contains x)
section
variable {X : Cx} {G : Gx} {a : Expr} {p q pos : Pos} {i : Nat} {anc : List (Str × List Str)} {xs : List Str} {x : Str}
theorem pe_cls {v : V} {cv : Value} (h : ClsV X.mg x v cv) (hg : Gl X x) (hd : (x == ("__debug__" : Str)) = false) : PE X (.Name x q) (tC v) := by
  obtain ⟨r, h | ⟨h1, h2, h3⟩⟩ := h
  · exact pe_glob hg h r hd
  · exact pe_bltn hg h1 h2 r h3 hd
theorem isE_ok : CallR X (.builtin "isinstance") (fun us H Q => ∃ a C v cv b, us = [.ref a, v] ∧ H a = some (.ext (excAt a C)) ∧ ExK X.K C ∧ RelV v cv ∧ kitOne X.K (.ref C) cv = some b ∧ Q (.bl b) H) := by
  intro pins s σ H us ws Q I r h
  obtain ⟨a, C, v, cv, b, rfl, ha, T, rv, e, q⟩ := h
  obtain ⟨u, w', rfl, rx, rc⟩ := vals2 r
  cases (show u = Value.ref a from rx)
  obtain ⟨⟨o, vs, h1, h2, h3⟩, _⟩ := I.hok a _ ha
  have e1 : w' = cv := by
    cases v with
    | ref z => cases (show w' = Value.ref z from rc); cases (show cv = Value.ref z from rv); rfl
    | ty z => cases (show w' = Value.type z from rc); cases (show cv = Value.type z from rv); rfl
    | non => cases (show w' = Value.none from rc); cases (show cv = Value.none from rv); rfl
    | bl z => cases (show w' = Value.bool z from rc); cases (show cv = Value.bool z from rv); rfl
    | _ =>
      exfalso
      obtain ⟨t, rfl⟩ := rv
      unfold kitOne at e
      rw [if_neg (by intro z; cases (beq_iff_eq.mp z))] at e
      simp [kitCls] at e
  subst e1
  exact PySem.W.kia_one (kitx_exc T) I.kIn ⟨o, h1, h2⟩ e (fun z => nomatch z) fun tk => ⟨.bl b, H, I.tok _, rfl, q⟩
theorem pd_isE (hK : EK X.K X.mg anc xs) (hx : xs.contains x = true) (hgi : Gl X "isinstance") (hm : X.mg "isinstance" = none) (hv : PE X a (tVar i)) (hg : Gl X x) (hd : (x == ("__debug__" : Str)) = false := by decide)
    (h1 : starEach [a, .Name x q] X.env = (false, eval a X.env) :: starEach [.Name x q] X.env := by rfl) (h2 : starEach [.Name x q] X.env = (false, eval (.Name x q) X.env) :: starEach [] X.env := by rfl) (hpl : (backTo pos (starEach [.Name x q] X.env)).any (·.1) = false := by rfl) :
    PEd X G (.Call (.Name "isinstance" p) [a, .Name x q] [] pos) (eIsE anc i [x]) := by
  intro pins s σ H Q I w
  obtain ⟨ρ, Hi, R, ou⟩ := w
  unfold eIsE at ou
  cases z : ρ[i]? with
  | none => rw [z] at ou; exact ou.elim
  | some sl =>
    rw [z] at ou
    cases sl with
    | exc c =>
      obtain ⟨ad, C, o1, o2, o3, o4, o5⟩ := R.slot i _ z
      cases zl : anc.lookup c with
      | none => simp only [zl] at ou; exact ou.elim
      | some l =>
        simp only [zl] at ou
        obtain ⟨C', m1, T, hxs⟩ := hK c l zl
        rw [o5] at m1
        cases m1
        obtain ⟨v, cv, hcl, _, hk⟩ := hxs x hx
        refine pe_callB isE_ok hgi hm boot_isinstance (pa_cons hv (pa_cons (pe_cls hcl hg hd) pa_nil h2) h1) (by decide) (by decide) h1 hpl pins s σ H Q I ?_
        refine ⟨.ref ad, o1, ad, C, v, cv, _, rfl, o2, T, hcl.1, hk, ?_⟩
        have := ou.here R.s (.bl (l.contains x)) (by simpa using IsD.bl (l.contains x))
        exact this
    | un => exact ou.elim
    | val d => exact ou.elim
    | own ds => exact ou.elim
    | tab T => exact ou.elim
/-- a row of class names -/
inductive NmL (X : Cx) (xs : List Str) : List Expr → List Str → Prop where
  | nil : NmL X xs [] []
  | cons {x : Str} {q : Pos} {es : List Expr} {cs : List Str} : xs.contains x = true → Gl X x → (x == ("__debug__" : Str)) = false → starEach (.Name x q :: es) X.env = (false, eval (.Name x q) X.env) :: starEach es X.env → NmL X xs es cs → NmL X xs (.Name x q :: es) (x :: cs)
theorem NmL.vals {K : Frag} {C : Addr} {l : List Str} (hx : ∀ x, xs.contains x = true → ∃ v cv, ClsV X.mg x v cv ∧ (∃ z, (v = .ref z ∨ ∃ T, v = .ty T)) ∧ kitOne K (.ref C) cv = some (l.contains x)) :
    ∀ {es : List Expr} {cs : List Str}, NmL X xs es cs → ∃ vs cvs, PA X es (fun _ H Q => Q vs H) ∧ vs.length = es.length ∧ Vals vs cvs ∧ (∀ ws, Vals vs ws → ws = cvs) ∧ kitAny K (.ref C) cvs = some (cs.any fun x => l.contains x)
  | _, _, .nil => ⟨[], [], pa_nil, rfl, .nil, fun ws r => by cases r; rfl, rfl⟩
  | _, _, .cons (x := x) (q := q) h1 h2 h3 h4 t => by
    obtain ⟨vs, cvs, p1, p0, p2, p3, p4⟩ := NmL.vals hx t
    obtain ⟨v, cv, hcl, ⟨z, hv⟩, hk⟩ := hx x h1
    refine ⟨v :: vs, cv :: cvs, pa_cons (pe_cls hcl h2 h3) p1 h4, by rw [List.length_cons, List.length_cons, p0], .cons hcl.1 p2, fun ws r => ?_, ?_⟩
    · cases r with
      | cons r1 r2 =>
        rw [p3 _ r2]
        congr 1
        have hr := hcl.1
        rcases hv with rfl | ⟨T, rfl⟩
        · rw [show _ = Value.ref z from r1, show cv = Value.ref z from hr]
        · rw [show _ = Value.type T from r1, show cv = Value.type T from hr]
    · unfold kitAny
      rw [hk, List.any_cons]
      cases l.contains x with
      | true => rfl
      | false => exact p4
theorem isEs_ok : CallR X (.builtin "isinstance") (fun us H Q => ∃ a C tp vs cvs b, us = [.ref a, .ref tp] ∧ H a = some (.ext (excAt a C)) ∧ ExK X.K C ∧ SqT X.K H tp vs ∧ (∀ ws, Vals vs ws → ws = cvs) ∧ kitAny X.K (.ref C) cvs = some b ∧ Q (.bl b) H) := by
  intro pins s σ H us ws Q I r h
  obtain ⟨a, C, tp, vs, cvs, b, rfl, ha, T, ht, hu, e, q⟩ := h
  obtain ⟨u, w', rfl, rx, rc⟩ := vals2 r
  cases (show u = Value.ref a from rx)
  cases (show w' = Value.ref tp from rc)
  obtain ⟨⟨o, vs', h1, h2, h3⟩, _⟩ := I.hok a _ ha
  obtain ⟨its, rv, ⟨⟨oc, od, odt, osl⟩, t1, t2, n, t3⟩, hz⟩ := I.tuple ht
  have := hu its rv
  subst this
  simp only at t2 t3
  subst t2 t3
  exact PySem.W.kia_tup (kitx_exc T) I.kIn ⟨o, h1, h2⟩ t1 e (fun z => nomatch z) fun tk => ⟨.bl b, H, I.tok _, rfl, q⟩
theorem pd_isEs {es : List Expr} {cs : List Str} {k1 : Nat} {tp : Pos} (hK : EK X.K X.mg anc xs) (hn : NmL X xs es cs) (hgi : Gl X "isinstance") (hm : X.mg "isinstance" = none) (hv : PE X a (tVar i)) (hlen : es.length ≤ 100)
    (h1 : starEach [a, .Tuple es k1 tp] X.env = (false, eval a X.env) :: starEach [.Tuple es k1 tp] X.env := by rfl) (h2 : starEach [.Tuple es k1 tp] X.env = (false, eval (.Tuple es k1 tp) X.env) :: starEach [] X.env := by rfl) (hpl : (backTo pos (starEach [.Tuple es k1 tp] X.env)).any (·.1) = false := by rfl) :
    PEd X G (.Call (.Name "isinstance" p) [a, .Tuple es k1 tp] [] pos) (eIsE anc i cs) := by
  intro pins s σ H Q I w
  obtain ⟨ρ, Hi, R, ou⟩ := w
  unfold eIsE at ou
  cases z : ρ[i]? with
  | none => rw [z] at ou; exact ou.elim
  | some sl =>
    rw [z] at ou
    cases sl with
    | exc c =>
      obtain ⟨ad, C, o1, o2, o3, o4, o5⟩ := R.slot i _ z
      cases zl : anc.lookup c with
      | none => simp only [zl] at ou; exact ou.elim
      | some l =>
        simp only [zl] at ou
        obtain ⟨C', m1, T, hxs⟩ := hK c l zl
        rw [o5] at m1
        cases m1
        obtain ⟨vs, cvs, pa, hl0, rv, hu, hk⟩ := NmL.vals (K := X.K) (C := C) (l := l) hxs hn
        have hl : vs.length ≤ 100 := by rw [hl0]; exact hlen
        refine pe_callB isEs_ok hgi hm boot_isinstance (pa_cons hv (pa_cons (pe_tup pa) pa_nil h2) h1) (by decide) (by decide) h1 hpl pins s σ H Q I ?_
        refine ⟨.ref ad, o1, Nat.le_trans hl (by decide), fun t ht => ⟨ad, C, t, vs, cvs, _, rfl, ?_, T, SqT.of upd_same, hu, hk, ?_⟩⟩
        · rw [upd_ne (ne_of_none o2 ht)]; exact o2
        · exact ou _ _ (Ext.newF R.s ht) (.bl _) (.bl _)
    | un => exact ou.elim
    | val d => exact ou.elim
    | own ds => exact ou.elim
    | tab T => exact ou.elim
end
end L3

namespace L3
open PySem PySem.Spec PyProof.Rows L2 PySem.W
unseal PEd PEf PTd PWd PAd PSd PSsd POd PGd PGsd PId PSx PSsx
/-! ### facts about the text's own error classes -/
theorem lookup_mem {α β : Type} [BEq α] [LawfulBEq α] {a : α} {b : β} : ∀ {l : List (α × β)}, l.lookup a = some b → (a, b) ∈ l
  | [], h => by cases h
  | (x, y) :: l, h => by
    rw [List.lookup_cons] at h
    split at h
    · rename_i e
      cases h
      rw [beq_iff_eq.mp e]
      exact List.mem_cons_self
    · exact List.mem_cons_of_mem _ (lookup_mem h)
section
variable {K : Frag} {h : Heap} {mg : Str → Option Value} {x c ce : Str} {C CE : Addr}
theorem err_mk {newId : String} {bmB : List Value} {B initId : String} (X : K.In h) (G : h.Ns mainGlobals mg) (e : nsIn K mainGlobals x = some (some (.ref C))) (q : excIn K C bmB newId = true) (F : ExcBaseFacts B newId initId bmB) : ∃ C, Err K mg x C := by
  refine ⟨C, ⟨fun h' X' => ⟨bmB, newId, B, initId, ⟨mg_of X G e, ?_⟩, F⟩⟩⟩
  unfold excIn at q
  split at q
  · rename_i dd cd sl ho
    split at q
    · rename_i C' bm k0 k1 k2 k3 n k5 hm hs
      simp only [Bool.and_eq_true, beq_iff_eq, Bool.not_eq_true'] at q
      obtain ⟨⟨⟨⟨⟨rfl, rfl⟩, hdel⟩, ht⟩, hok⟩, hni⟩ := q
      obtain ⟨nm, bs, mro, ns, qn, hd, sn, sub, ab, col, del⟩ := cd
      dsimp only at hm hdel hok hni
      subst hm hdel
      have hsl : sl = #[k0, k1, k2, k3, some (.builtin n), k5] := by
        obtain ⟨l⟩ := sl
        simp only at hs
        rw [hs]
      subst hsl
      exact ⟨bm, ns, nm, qn, bs, hd, sn, sub, ab, col, dd, k0, k1, k2, k3, k5, _, X' _ _ ho, .of_isNs (isNs_of_in X' hok), nsMap_none_of_in X' hok hni, tail_of_in X' ht⟩
    · cases q
  · cases q
theorem hasCls (q : hasDictIn K C = true) : (clsIn K C).isSome = true := by
  obtain ⟨cd, hc, _⟩ := any_some q
  rw [hc]; rfl
theorem exk_mk (h1 : hasDictIn K C = true) (h2 : findIn K (.ref C) "__getattribute__" = some (some (.builtin "BaseException.__getattribute__"))) (h3 : findIn K (.ref C) "__getattr__" = some none) (h4 : findIn K (.ref C) "__class__" = some (some (.builtin "object.__class__")))
    (h5 : specialIn K (.builtin "object.__class__") "__get__" = some (some (.builtin "getset_descriptor.__get__"))) (h6 : takesIn K (.builtin "object.__class__") = some true) (h7 : mroIn K C (.type "object") = some true) (h8 : mroIn K C (.type "BaseException") = some true) : ExK K C :=
  ⟨hasCls h1, h2, h3, h4, h5, h6, h7, h8⟩
theorem cak_mk (h1 : typeIn K (.ref CE) = some (.type "type")) (h2 : hasDictIn K CE = true) (h3 : mroIn K CE (.type "BaseException") = some true) : CaK K CE := ⟨h1, hasCls h2, h3⟩
theorem clsv_own (X : K.In h) (G : h.Ns mainGlobals mg) (e : nsIn K mainGlobals x = some (some (.ref C))) : ClsV mg x (.ref C) (.ref C) := ⟨rfl, .inl (mg_of X G e)⟩
theorem clsv_blt {T : String} (X : K.In h) (G : h.Ns mainGlobals mg) (e : nsIn K mainGlobals x = some none) (hb : bootBuiltins x = some (.type T)) (hn : x ≠ "__name__") : ClsV mg x (.ty T) (.type T) := ⟨rfl, .inr ⟨mg_none_of X G e, hb, hn⟩⟩
end
end L3

namespace L3
open PySem PySem.Spec PyProof.Rows L2
unseal PEd PEf PTd PWd PAd PSd PSsd POd PGd PGsd PId PSx PSsx
/-! ### a comprehension's block -/
/-- the cells that a block takes over -/
noncomputable def cloG (env : Env) : List (Str × NameKind) → List (Str × Addr) → List (Str × Addr)
  | [], cs => cs
  | (n, k) :: r, cs => cloG env r (if k == .free then (n, (env.cells.lookup n).getD 0) :: cs else cs)
theorem clo_go {env : Env} : ∀ (l : List (Str × NameKind)) (cs : List (Str × Addr)), (∀ p ∈ l, p.2 = .free → ∃ c, env.cells.lookup p.1 = some c) →
    (forIn l cs (fun p (r : List (Str × Addr)) => if (p.2 == NameKind.free) = true then (do let a ← cellOf env p.1; pure (ForInStep.yield ((p.1, a) :: r))) else pure (ForInStep.yield r)) : Sem (List (Str × Addr))) = pure (cloG env l cs)
  | [], cs, _ => by simp [cloG]
  | (n, k) :: r, cs, h => by
    rw [List.forIn_cons, cloG]
    have ih := fun cs => clo_go r cs fun p hp => h p (List.mem_cons_of_mem _ hp)
    by_cases e : (k == NameKind.free) = true
    · obtain ⟨c, hc⟩ := h (n, k) List.mem_cons_self (beq_iff_eq.mp e)
      simp only [e, if_true, cellOf, hc, pure_bind, Option.getD_some]
      exact ih _
    · simp only [e, Bool.false_eq_true, if_false, pure_bind]
      exact ih _
theorem clo_eq {env : Env} {scope : Scope} (h : ∀ p ∈ scope.names, p.2 = .free → ∃ c, env.cells.lookup p.1 = some c) : closureFor scope env = pure (cloG env scope.names []) := by
  have := clo_go scope.names [] h
  unfold closureFor
  rw [← this]
  simp

theorem clo_sub {env : Env} : ∀ (l : List (Str × NameKind)) (cs : List (Str × Addr)), (∀ p ∈ l, p.2 = .free → ∃ c, env.cells.lookup p.1 = some c) → (∀ y c, cs.lookup y = some c → env.cells.lookup y = some c) →
    ∀ y c, (cloG env l cs).lookup y = some c → env.cells.lookup y = some c
  | [], cs, _, h, y, c, e => h y c e
  | (n, k) :: r, cs, hl, h, y, c, e => by
    rw [cloG] at e
    refine clo_sub r _ (fun p hp => hl p (List.mem_cons_of_mem _ hp)) (fun y c e => ?_) y c e
    by_cases z : (k == NameKind.free) = true
    · obtain ⟨c', hc⟩ := hl (n, k) List.mem_cons_self (beq_iff_eq.mp z)
      simp only [z, if_true, List.lookup_cons, hc, Option.getD_some] at e
      cases w : y == n with
      | true => rw [w] at e; cases e; rw [beq_iff_eq.mp w]; exact hc
      | false => rw [w] at e; exact h y c e
    · simp only [z, Bool.false_eq_true, if_false] at e
      exact h y c e
theorem clo_keep {env : Env} : ∀ (l : List (Str × NameKind)) (cs : List (Str × Addr)) (y : Str), (∃ c, cs.lookup y = some c) → ∃ c, (cloG env l cs).lookup y = some c
  | [], cs, y, h => h
  | (n, k) :: r, cs, y, ⟨c, h⟩ => by
    rw [cloG]
    refine clo_keep r _ y ?_
    split
    · rw [List.lookup_cons]
      cases y == n with
      | true => exact ⟨_, rfl⟩
      | false => exact ⟨c, h⟩
    · exact ⟨c, h⟩
theorem clo_has {env : Env} : ∀ (l : List (Str × NameKind)) (cs : List (Str × Addr)) (y : Str), (y, NameKind.free) ∈ l → ∃ c, (cloG env l cs).lookup y = some c
  | (n, k) :: r, cs, y, h => by
    rw [cloG]
    rcases List.mem_cons.mp h with e | h
    · cases e
      refine clo_keep r _ _ ⟨(env.cells.lookup n).getD 0, ?_⟩
      simp only [beq_self_eq_true, if_true, List.lookup_cons]
    · exact clo_has r _ y h
theorem lookup_mem' {α : Type} : ∀ {l : List (Str × α)} {y : Str} {k : α}, l.lookup y = some k → (y, k) ∈ l
  | (n, k') :: r, y, k, h => by
    rw [List.lookup_cons] at h
    cases z : y == n with
    | true => rw [z] at h; cases h; rw [beq_iff_eq.mp z]; exact List.mem_cons_self
    | false => rw [z] at h; exact List.mem_cons_of_mem _ (lookup_mem' h)
/-- the kinds within the block -/
theorem rel_lookup {env : Env} : ∀ {l : List (Str × NameKind)} {y : Str} {k : NameKind},
    (l.map fun (n, k) => if (k == NameKind.free && env.scope.kind == .function && env.kindOf n == some .cell) then (n, NameKind.cell) else (n, k)).lookup y = some k →
    l.lookup y = some k ∨ (k = .cell ∧ l.lookup y = some .free)
  | (n, k') :: r, y, k, h => by
    rw [List.map_cons] at h
    rw [List.lookup_cons]
    by_cases c : (k' == NameKind.free && env.scope.kind == .function && env.kindOf n == some .cell) = true
    · simp only [c, if_true, List.lookup_cons] at h
      cases z : y == n with
      | true =>
        rw [z] at h
        cases h
        refine .inr ⟨rfl, ?_⟩
        simp only [Bool.and_eq_true] at c
        rw [beq_iff_eq.mp c.1.1]
      | false => rw [z] at h; exact rel_lookup h
    · simp only [c, Bool.false_eq_true, if_false, List.lookup_cons] at h
      cases z : y == n with
      | true => rw [z] at h; exact .inl h
      | false => rw [z] at h; exact rel_lookup h
noncomputable def msk (x y : Str) : Str := if y = x then ("" : Str) else y
structure BlkOk (X : Cx) (x : Str) (scope : Scope) : Prop where
  kind : scope.kind = .function
  cell : ∀ y ∈ scope.names, y.2 ≠ .cell
  loc : scope.names.lookup x = some .local
  names : ∀ y ∈ scope.names, y.2 = .local → scope.names.lookup y.1 = some .local
  fre : ∀ p ∈ scope.names, p.2 = .free → X.env.kindOf p.1 = some .cell ∨ X.env.kindOf p.1 = some .free
  oth : ∀ y ∈ X.N, y ≠ x → scope.names.lookup y ≠ some .local
  emp : scope.names.lookup ("" : Str) = none
/-- the block's context -/
noncomputable def cxC (X : Cx) (x : Str) (scope : Scope) (C : Addr) (s₂ : Shared) (H₂ : Hp) (fp : List Addr) : Cx :=
  { prog := X.prog, w := X.w, K := X.K, mg := X.mg, base := X.base, A := X.A, N := X.N.map (msk x) ++ [x], s₀ := s₂, H₀ := H₂, env := compEnvC scope (cloG X.env scope.names []) C X.env, outer := X.stack, stack := X.stack,
    ex := fp, fn := fun _ => false, calm := X.calm, pn := X.pn, xe := fun _ _ => False }
section
variable {X : Cx} {pins : List (Addr × Obj)} {σ : St} {H : Hp} {s₂ : Shared} {x : Str} {scope : Scope} {fp : List Addr} {D C : Addr} {h₁ : Heap}
theorem BlkOk.cl (B : BlkOk X x scope) (I : Inv X pins σ H s₂) : ∀ p ∈ scope.names, p.2 = .free → ∃ c, X.env.cells.lookup p.1 = some c := fun p hp e => I.ok.has p.1 (B.fre p hp e)
theorem enter (I : Inv X pins σ H s₂) (B : BlkOk X x scope) (hfp : ∀ b ∈ fp, FpOk X pins H b) (hfl : ∀ b ∈ fp, b < s₂.heap.objs.size) (hD : s₂.heap.objs.size ≤ D) (hC : s₂.heap.objs.size ≤ C) (hDC : D ≠ C)
    (old : ∀ b o, s₂.heap.get? b = some o → h₁.get? b = some o) {n : Nat} (hacc : h₁.get? D = some { cls := .type "list", data := .seq ([] : List Value).toArray n }) {m : Str → Option Value} (hns : h₁.Ns C m) (t : Nat) :
    Inv (cxC X x scope C s₂ H fp) pins (σ ++ [none]) (upd H D (.lst [])) { s₂ with heap := h₁, toks := t } := by
  have sub := clo_sub scope.names [] (B.cl I) (fun y c e => nomatch e)
  have old_lt : ∀ {b : Addr} {o : Obj}, s₂.heap.get? b = some o → b ≠ D ∧ b ≠ C := fun e => ⟨Nat.ne_of_lt (Nat.lt_of_lt_of_le (Heap.lt_size e) hD), Nat.ne_of_lt (Nat.lt_of_lt_of_le (Heap.lt_size e) hC)⟩
  have free : ∀ {b : Addr}, b ≠ D → H b = none → upd H D (.lst []) b = none := fun n e => by rw [upd_ne n]; exact e
  refine ⟨⟨I.ok.mod, B.kind, I.ok.glob, I.ok.blt, hC, fun y z c e1 e2 => I.ok.inj y z c (sub y c e1) (sub z c e2), fun y hy => ?_, fun y c e => (nomatch e), I.ok.hd, I.ok.frames, .inl rfl, fun b hb => ⟨Nat.ne_of_lt (Nat.lt_of_lt_of_le (hfl b hb) hC), fun y c e => (hfp b hb).2.2.2.2.1 y c (sub y c e)⟩,
    I.bs, Nat.le_trans I.ok.bsz I.sz, fun b o e hb => ?_, fun b hb z => ?_, I.stack, I.stkFree⟩, rfl, I.bare, Un.laid old hD (I.hok.fresh hD), ⟨m, hns, fun i y v e1 e2 e3 => ?_⟩, fun y c e => ?_, free (Ne.symm hDC) (I.hok.fresh hC), fun y c e => ?_, fun p hp => ?_, I.hok.laid old hD ⟨Nat.zero_le _, [], n, .nil, hacc⟩, ?_⟩
  · have : ∃ k, (k = NameKind.cell ∨ k = NameKind.free) ∧ ((relabel scope X.env).names).lookup y = some k := hy.elim (fun h => ⟨_, .inl rfl, h⟩) fun h => ⟨_, .inr rfl, h⟩
    obtain ⟨k, hk, e⟩ := this
    have e' : (y, NameKind.free) ∈ scope.names := by
      rcases rel_lookup e with z | ⟨_, z⟩
      · rcases hk with rfl | rfl
        · exact absurd rfl (B.cell _ (lookup_mem' z))
        · exact lookup_mem' z
      · exact lookup_mem' z
    exact clo_has scope.names [] y e'
  · rcases (hfp b hb).2.2.2.1 with z | z
    · exact I.ok.noex b o e z
    · exact absurd (Nat.lt_of_lt_of_le (Heap.lt_size e) (Nat.le_trans I.ok.bsz z)) (Nat.lt_irrefl _)
  · rcases List.mem_cons.mp (I.stkSub b z) with w | w
    · exact (hfp b hb).2.1 w
    · exact (hfp b hb).2.2.1 w
  · -- a name of the def that the block sees
    have hi : i < σ.length := by
      by_cases hi : i < σ.length
      · exact hi
      · exfalso
        rw [List.getElem?_append_right (by omega)] at e2
        cases q : i - σ.length with
        | zero => rw [q] at e2; cases e2
        | succ j => rw [q] at e2; cases e2
    rw [List.getElem?_append_left hi] at e2
    have e1' : (X.N.map (msk x) ++ [x])[i]? = some y := e1
    rw [List.getElem?_append_left (by rw [List.length_map, ← I.len]; exact hi), List.getElem?_map] at e1'
    cases q : X.N[i]? with
    | none => rw [q] at e1'; cases e1'
    | some z =>
      rw [q] at e1'
      have e1'' : msk x z = y := Option.some.inj e1'
      have hz : z ∈ X.N := List.mem_of_getElem? q
      have vis : ∃ k, ((relabel scope X.env).names).lookup y = some k := e3.elim (fun h => ⟨_, h⟩) fun h => h.elim (fun h => ⟨_, h⟩) fun h => ⟨_, h⟩
      have hzx : z ≠ x := fun w => by
        obtain ⟨k, hk⟩ := vis
        have : y = ("" : Str) := by rw [← e1'', w]; exact if_pos rfl
        rw [this] at hk
        rcases rel_lookup hk with h | ⟨_, h⟩ <;> (rw [B.emp] at h; cases h)
      have hy : z = y := by rw [← e1'']; exact (if_neg hzx).symm
      subst hy
      have fr : (z, NameKind.free) ∈ scope.names := by
        rcases e3 with h | h | h
        · rcases rel_lookup h with h | ⟨h, _⟩
          · exact absurd h (B.oth z hz hzx)
          · cases h
        · rcases rel_lookup h with h | ⟨_, h⟩
          · exact absurd rfl (B.cell _ (lookup_mem' h))
          · exact lookup_mem' h
        · rcases rel_lookup h with h | ⟨h, _⟩
          · exact lookup_mem' h
          · cases h
      have kd := B.fre _ fr rfl
      obtain ⟨m0, hn0, hl⟩ := I.loc
      obtain ⟨u, ru, lk⟩ := hl i z v q e2 (kd.elim (fun h => .inr (.inl h)) fun h => .inr (.inr h))
      refine ⟨u, ru, .inr ⟨?_, ?_⟩⟩
      · rcases e3 with h | h | h
        · rcases rel_lookup h with h | ⟨h, _⟩
          · exact absurd h (B.oth z hz hzx)
          · cases h
        · exact .inl h
        · exact .inr h
      · rcases lk with ⟨k1, _⟩ | ⟨_, c, hc, hcell⟩
        · rcases kd with kd | kd <;> (rw [kd] at k1; cases k1)
        · obtain ⟨c', hc'⟩ := clo_has (env := X.env) scope.names [] z fr
          have := sub z c' hc'
          rw [hc] at this
          cases this
          obtain ⟨o, ho, hd⟩ := hcell
          exact ⟨c, hc', o, old _ _ ho, hd⟩
  · obtain ⟨v, o, ho, hd⟩ := I.cell y c (sub y c e)
    exact ⟨v, o, old _ _ ho, hd⟩
  · obtain ⟨v, o, ho, hd⟩ := I.cell y c (sub y c e)
    exact free (old_lt ho).1 (I.freeC y c (sub y c e))
  · obtain ⟨e, n, ne, nf, d⟩ := I.pin p hp
    refine ⟨old _ _ e, free (old_lt e).1 n, (old_lt e).2, fun z => ?_, d⟩
    rcases List.mem_cons.mp (I.stkSub _ z) with w | w
    · exact ne w
    · exact nf w
  · show (σ ++ [none]).length = (X.N.map (msk x) ++ [x]).length
    rw [List.length_append, List.length_append, List.length_map, I.len]; rfl
end
end L3

namespace L3
open PySem PySem.Spec PyProof.Rows L2
unseal PEd PEf PTd PWd PAd PSd PSsd POd PGd PGsd PId PSx PSsx
section
variable {K : PySem.W.Frag} {mg : Str → Option Value} {B Bi Hi H Hi' H' : Hp} {σ : St} {ρ : Rho}
/-- one name more, bound to a value -/
theorem Rel.snoc {v : V} {d : D} (R : Rel K mg B Bi Hi H σ ρ) (h : IsD K Hi v d) : Rel K mg B Bi Hi H (σ ++ [some v]) (ρ ++ [.val d]) where
  len := by rw [List.length_append, List.length_append, R.len]; rfl
  ext := R.ext
  slot := fun j s q => by
    by_cases hl : j < ρ.length
    · rw [List.getElem?_append_left hl] at q
      rw [List.getElem?_append_left (by rw [R.len]; exact hl)]
      exact R.slot j s q
    · rw [List.getElem?_append_right (by omega)] at q
      rw [List.getElem?_append_right (by rw [R.len]; omega), R.len]
      cases z : j - ρ.length with
      | zero => rw [z] at q; cases q; exact ⟨v, rfl, h⟩
      | succ n => rw [z] at q; cases q
  dist := fun j k a ds es q1 q2 q3 q4 => by
    have own : ∀ {j : Nat} {ds : List D}, (ρ ++ [Sl.val d])[j]? = some (.own ds) → j < ρ.length := fun {j ds} q => by
      by_cases hl : j < ρ.length
      · exact hl
      · rw [List.getElem?_append_right (by omega)] at q
        cases z : j - ρ.length with
        | zero => rw [z] at q; cases q
        | succ n => rw [z] at q; cases q
    have h1 := own q1
    have h2 := own q2
    rw [List.getElem?_append_left h1] at q1
    rw [List.getElem?_append_left h2] at q2
    rw [List.getElem?_append_left (by rw [R.len]; exact h1)] at q3
    rw [List.getElem?_append_left (by rw [R.len]; exact h2)] at q4
    exact R.dist j k a ds es q1 q2 q3 q4
/-- a list that is new since then is written -/
theorem Ext.rewrite {a : Addr} {o : HO} (e : Ext Hi H Hi' H') (hn : H a = none) (hi : Hi' a = none) : Ext Hi H Hi' (upd H' a o) where
  i := e.i
  h := fun b u z => by rw [upd_ne (ne_of_none z hn)]; exact e.h _ _ z
  s := fun b u z => by rw [upd_ne (ne_of_none z hi)]; exact e.s _ _ z
  n := e.n
theorem IsDs.snoc {v : V} {d : D} (h : IsD K H v d) : ∀ {vs : List V} {ds : List D}, IsDs K H vs ds → IsDs K H (vs ++ [v]) (ds ++ [d])
  | _, _, .nil => .cons h .nil
  | _, _, .cons r t => .cons r (IsDs.snoc h t)
end
theorem noErr_is {α : Type} {r : Res α} {a : α} (h : noErr r = .ok a) : r = .ok a := by
  cases r with
  | ok b => exact h
  | err c => cases h
  | no => cases h
theorem compD_cons {t : Tv} {f : Ev} {ρ : Rho} {d : D} {ds es : List D} (h : compD t f ρ (d :: ds) = .ok es) :
    (t (ρ ++ [.val d]) = .ok false ∧ compD t f ρ ds = .ok es) ∨ (t (ρ ++ [.val d]) = .ok true ∧ ∃ e es', f (ρ ++ [.val d]) = .ok e ∧ compD t f ρ ds = .ok es' ∧ es = e :: es') := by
  rw [compD] at h
  cases ht : noErr (t (ρ ++ [.val d])) with
  | no => rw [ht] at h; cases h
  | err c => rw [ht] at h; cases h
  | ok c =>
    rw [ht] at h
    have ht' := noErr_is ht
    cases c with
    | false => exact .inl ⟨ht', h⟩
    | true =>
      refine .inr ⟨ht', ?_⟩
      have h' : ((noErr (f (ρ ++ [.val d]))).bind fun e => (compD t f ρ ds).bind fun es => .ok (e :: es)) = .ok es := h
      cases hf : noErr (f (ρ ++ [.val d])) with
      | no => rw [hf] at h'; cases h'
      | err c => rw [hf] at h'; cases h'
      | ok e =>
        rw [hf] at h'
        have h'' : ((compD t f ρ ds).bind fun es => .ok (e :: es)) = .ok es := h'
        cases hr : compD t f ρ ds with
        | no => rw [hr] at h''; cases h''
        | err c => rw [hr] at h''; cases h''
        | ok es' =>
          rw [hr] at h''
          cases h''
          exact ⟨e, es', noErr_is hf, rfl, rfl⟩
theorem compD_ne {t : Tv} {f : Ev} {ρ : Rho} {c : Str} : ∀ {ds : List D}, compD t f ρ ds ≠ .err c
  | [] => fun h => by cases h
  | d :: ds => fun h => by
    rw [compD] at h
    cases ht : noErr (t (ρ ++ [.val d])) with
    | no => rw [ht] at h; cases h
    | err c => cases q : t (ρ ++ [.val d]) <;> (rw [q] at ht; cases ht)
    | ok b =>
      rw [ht] at h
      cases b with
      | false => exact compD_ne h
      | true =>
        have h' : ((noErr (f (ρ ++ [.val d]))).bind fun e => (compD t f ρ ds).bind fun es => .ok (e :: es)) = .err c := h
        cases hf : noErr (f (ρ ++ [.val d])) with
        | no => rw [hf] at h'; cases h'
        | err c => cases q : f (ρ ++ [.val d]) <;> (rw [q] at hf; cases hf)
        | ok e =>
          rw [hf] at h'
          cases hr : compD t f ρ ds with
          | no => simp only [Res.bind, hr] at h'; cases h'
          | err c' => exact compD_ne hr
          | ok es => simp only [Res.bind, hr] at h'; cases h'
/-- the tests of a clause -/
@[irreducible] noncomputable def PTs (X : Cx) (G : Gx) (ifs : List Expr) (t : Tv) : Prop :=
  ∀ (pins : List (Addr × Obj)) (s : Shared) (σ : St) (H : Hp) (Q : Bool → Hp → Prop), Inv X pins σ H s → tTb X G t σ H Q →
    wpAny (model X.prog X.w) X.A (forIn ifs true fun c r => if r = true then do let ok ← isTrue c X.env (eval c X.env); pure (ForInStep.yield ok) else pure (ForInStep.yield r)) (TP X pins σ Q) X.xe s
unseal PTs
theorem ts_nil {X : Cx} {G : Gx} : PTs X G [] tTrue := fun pins s σ H Q I ⟨ρ, Hi, R, o⟩ => wpAny_tests_nil ⟨H, I, Out.here (a := true) o R.s⟩
theorem ts_one {X : Cx} {G : Gx} {c : Expr} {t : Tv} (h : PTd X G c t) : PTs X G [c] t := fun pins s σ H Q I q => wpAny_tests_one (h pins s σ H Q I q)
end L3

namespace L3
open PySem PySem.Spec PyProof.Rows L2
unseal PEd PEf PTd PWd PAd PSd PSsd POd PGd PGsd PId PSx PSsx PTs
section
variable {X : Cx} {G : Gx} {elt iter : Expr} {x : Str} {px pos : Pos} {ifs : List Expr} {scope : Scope} {it : Fv} {t : Tv} {f : Ev} {k : Nat}
/-- ahead of a store to a name nothing goes -/
theorem go_name {M : Model} {A : Around} {α : Type} {m : Sem α} {itv u : Value} {s : Shared} {Q1 : Unit → Shared → Prop} {R1 : α → Shared → Prop} {E : Value → Shared → Prop} (h : wpAny M A (letOwnedTupleGo (.Name x px) itv u) Q1 E s)
    (k : ∀ s5, Q1 () s5 → wpAny M A m R1 E s5) : wpAny M A m R1 E s := by
  have key := wpAny_bind (f := fun _ : Unit => m) (wpAny_mono h (fun _ s5 h5 => k s5 h5) fun _ _ z => z)
  have e : (letOwnedTupleGo (.Name x px) itv u >>= fun _ => m) = m := pure_bind () fun _ => m
  rw [e] at key
  exact key
theorem nodup_msk {N : List Str} (hN : N.Nodup) (h0 : ("" : Str) ∉ N) (hx : x ≠ ("" : Str)) : (N.map (msk x) ++ [x]).Nodup := by
  rw [List.nodup_append]
  refine ⟨?_, List.nodup_cons.mpr ⟨by simp, List.nodup_nil⟩, fun a ha b hb e => ?_⟩
  · induction N with
    | nil => exact List.nodup_nil
    | cons y N ih =>
      rw [List.map_cons, List.nodup_cons]
      obtain ⟨hy, hN⟩ := List.nodup_cons.mp hN
      refine ⟨fun hm => ?_, ih hN fun z => h0 (List.mem_cons_of_mem _ z)⟩
      obtain ⟨z, hz, e⟩ := List.mem_map.mp hm
      unfold msk at e
      by_cases c1 : z = x
      · by_cases c2 : y = x
        · exact hy (by rw [c2, ← c1]; exact hz)
        · rw [if_pos c1, if_neg c2] at e; exact h0 (by rw [e]; exact List.mem_cons_self)
      · by_cases c2 : y = x
        · rw [if_neg c1, if_pos c2] at e; exact h0 (by rw [← e]; exact List.mem_cons_of_mem _ hz)
        · rw [if_neg c1, if_neg c2] at e; exact hy (by rw [← e]; exact hz)
  · obtain ⟨z, hz, e1⟩ := List.mem_map.mp ha
    rw [List.mem_singleton] at hb
    subst hb
    subst e
    unfold msk at e1
    split at e1
    · exact hx e1.symm
    · rename_i c; exact c e1
/-- how far a comprehension has come -/
structure CW where
  i : Nat
  v : List (Option V)
  H : Hp
  Hi : Hp
  ys : List V
  done : List D
  rest : List D
structure CS (Y : Cx) (pins : List (Addr × Obj)) (σ : St) (tn : Nat → Heap → Prop) (fp : List Addr) (Hi2 H2 : Hp) (a : Addr) (m : Nat) (cp : Nat → Res (List D)) (es : List D) (c : CW) (s' : Shared) : Prop where
  inv : Inv Y pins (σ ++ c.v) c.H s'
  wid : c.v.length = m
  tn : tn c.i s'.heap
  fr : ∀ b ∈ fp, c.H b = none
  ext : Ext Hi2 H2 c.Hi c.H
  acc : c.H a = some (.lst c.ys)
  hi : c.Hi a = none
  isd : IsDs Y.K c.Hi c.ys c.done
  len : c.done.length ≤ c.i
  cmp : cp c.i = .ok c.rest
  all : es = c.done ++ c.rest
/-- what PC tells of a comprehension whose value is used while its block still stands -/
noncomputable def EndC (X : Cx) (pins : List (Addr × Obj)) (σ : St) (use : Option (Value → Sem Unit)) (Q' : Value → Shared → Prop) (Qa : Addr → Hp → Prop) : Prop :=
  ∀ (C A : Addr) (m : Str → Option Value) (s4 : Shared) (H3 : Hp), s4.heap.Ns C m → (∀ h', Heap.SameBut C s4.heap h' → Inv X pins σ H3 { s4 with heap := h' }) → FpOk X pins H3 C → Qa A H3 →
    compPost (model X.prog X.w) X.A X.xe use Q' (.ref A) C (.ok .next) s4
theorem comp_core (hc : X.calm = true) (hr : Room k X.A) (Bk : BlkOk X x scope) (hN : X.N.Nodup) (h0 : ("" : Str) ∉ X.N) (hx0 : x ≠ ("" : Str)) (hi : PId X G (.Name x px) iter it)
    (hb : ∀ (C : Addr) (s₂ : Shared) (H₂ : Hp) (fp : List Addr) (G' : Gx), Good (cxC X x scope C s₂ H₂ fp) G' k → PTs (cxC X x scope C s₂ H₂ fp) G' ifs t ∧ PEd (cxC X x scope C s₂ H₂ fp) G' elt f)
    (hs : ∀ x, foldedSetIterable iter X.env x = pure x := by intro _; rfl) 
    {pins : List (Addr × Obj)} {s : Shared} {σ : St} {H Hi : Hp} {ρ : Rho} {use : Option (Value → Sem Unit)} {Q' : Value → Shared → Prop} {Qa : Addr → Hp → Prop} {cpos : Pos} (I : Inv X pins σ H s) (R : RelX X G Hi H σ ρ)
    (ou : Out G Hi H ((fComp it t f) ρ) fun ds Hi' H' => ∀ a, NewL X.K H Hi' H' a ds → Qa a H') (hend : EndC X pins σ use Q' Qa) :
    wpAny (model X.prog X.w) X.A (comprehension (.ListComp elt [⟨.Name x px, iter, ifs, 0⟩] scope pos) scope X.env cpos (newList []) false (eval iter X.env) use) Q' X.xe s := by
  refine wpAny_comprehension_free (use := use) rfl hs (clo_eq (Bk.cl I)) Bk.kind Bk.names ?_
  refine thn (hi pins s σ H (fun J H2 => ∃ ds Hi2, Ext Hi H Hi2 H2 ∧ Gives X.K Hi2 J ds ∧ Out G Hi2 H2 (if ds.length ≤ 16777215 then compD t f ρ ds else .no) fun ds Hi' H' => ∀ a, NewL X.K H Hi' H' a ds → Qa a H') I
    ⟨ρ, Hi, R, (Out.bind ou).imp fun ds Hi2 H2 e2 o2 J gv => ⟨ds, Hi2, e2, gv, o2⟩⟩) fun v s1 h1 => thn h1 fun itv s2 h2 => ?_
  obtain ⟨itA, fp, tn, J, H2, rfl, I2, T, st2, f2, ds, Hi2, e2, gv, ou2⟩ := h2
  have hlen : ds.length ≤ 16777215 := by
    by_cases hlen : ds.length ≤ 16777215
    · exact hlen
    · rw [if_neg hlen] at ou2; exact ou2.elim
  rw [if_pos hlen] at ou2
  cases hes : compD t f ρ ds with
  | no => rw [hes] at ou2; exact ou2.elim
  | err c => exact absurd hes compD_ne
  | ok es =>
    rw [hes] at ou2
    have R2 : RelX X G Hi2 H2 σ ρ := R.grow e2
    refine wpAny_newObj_type (wpAny_newFunctionEnv Bk.cell (by intro y hy; simp at hy) (fun h₁ hns₁ hsb₁ => ?_) Bk.kind)
    dsimp only at hns₁ hsb₁ ⊢
    generalize hH2 : s2.heap.push { cls := .type "list", dict := none, data := .seq ([] : List Value).toArray } = HP at hns₁ hsb₁ ⊢
    have hC : HP.objs.size = s2.heap.objs.size + 1 := by rw [← hH2, Heap.size_push]
    have hDC : s2.heap.objs.size ≠ HP.objs.size := by rw [hC]; omega
    have ltC : ∀ {b : Addr} {o : Obj}, s2.heap.get? b = some o → b ≠ HP.objs.size := fun e => by rw [hC]; exact Nat.ne_of_lt (Nat.lt_succ_of_lt (Heap.lt_size e))
    have old : ∀ b o, s2.heap.get? b = some o → h₁.get? b = some o := fun b o e => hsb₁.extBut b o (ltC e) (Heap.get?_push_of_some _ (hH2 ▸ Heap.get?_push_of_some _ e))
    have hacc : h₁.get? s2.heap.objs.size = some { cls := .type "list", data := .seq ([] : List Value).toArray 0 } := hsb₁.extBut _ _ hDC (Heap.get?_push_of_some _ (hH2 ▸ Heap.get?_push_size _ rfl))
    have hfl : ∀ b ∈ fp, b < s2.heap.objs.size := fun b hb => by obtain ⟨o, e, _⟩ := T.obj _ _ st2 b hb; exact Heap.lt_size e
    have IE := enter (t := s2.toks + ([] : List (Str × Value)).length) I2 Bk f2 hfl (Nat.le_refl _) (by rw [hC]; omega) hDC old hacc hns₁
    have sub := clo_sub scope.names [] (Bk.cl I2) (fun y c e => nomatch e)
    have H2D : H2 s2.heap.objs.size = none := I2.hok.fresh (Nat.le_refl _)
    have HD : H s2.heap.objs.size = none := e2.h.none H2D
    have Hi2D : Hi2 s2.heap.objs.size = none := e2.s.none H2D
    -- the block
    generalize hX : cxC X x scope HP.objs.size s2 H2 fp = Y at IE
    have GY : Good Y ⟨G.B, G.Bi, fun _ _ => False⟩ k := by
      subst hX
      exact ⟨hc, hr, fun pins σ H s e s' _ h => by obtain ⟨_, _, _, _, _, c, _, z⟩ := h; exact z.elim, PassesOwn.never⟩
    obtain ⟨hts, hel⟩ := (hX ▸ hb HP.objs.size s2 H2 fp ⟨G.B, G.Bi, fun _ _ => False⟩ (hX.symm ▸ GY) : PTs Y ⟨G.B, G.Bi, fun _ _ => False⟩ ifs t ∧ PEd Y ⟨G.B, G.Bi, fun _ _ => False⟩ elt f)
    have stat : ∀ {H' : Hp}, (∀ b ∈ fp, H' b = none) → ∀ b ∈ fp, FpOk Y pins H' b := fun hn b hb => by
      subst hX
      refine ⟨hn b hb, ?_, fun z => ?_, .inl hb, fun y c e => (f2 b hb).2.2.2.2.1 y c (sub y c e), (f2 b hb).2.2.2.2.2⟩
      · show b ≠ HP.objs.size
        rw [hC]; exact Nat.ne_of_lt (Nat.lt_succ_of_lt (hfl b hb))
      · rcases List.mem_cons.mp (I2.stkSub b z) with w | w
        · exact (f2 b hb).2.1 w
        · exact (f2 b hb).2.2.1 w
    have YN : Y.N.Nodup := by subst hX; exact nodup_msk hN h0 hx0
    have Yx : Y.N[σ.length]? = some x := by
      subst hX
      show (X.N.map (msk x) ++ [x])[σ.length]? = some x
      rw [List.getElem?_append_right (by rw [List.length_map, I2.len]; omega), List.length_map, I2.len, Nat.sub_self]
      rfl
    have Yl : Y.env.scope.names.lookup x = some .local := by subst hX; exact lookup_relabel_local Bk.loc
    have Ye : Y.env = compEnvC scope (cloG X.env scope.names []) HP.objs.size X.env := by subst hX; rfl
    have Yxe : ∀ e s, ¬ Y.xe e s := by subst hX; exact fun _ _ h => h
    have tn1 : tn 0 h₁ := T.keep _ _ _ st2 fun b _ o e => old b o e
    have loop : ∀ s3 : Shared, s3 = { s2 with heap := h₁, toks := s2.toks + ([] : List (Str × Value)).length } →
        codeAny (model X.prog X.w) X.A (.compLoop (.ListComp elt [⟨.Name x px, iter, ifs, 0⟩] scope pos) 0 (.ref itA) (.ref s2.heap.objs.size) Y.env) (compPost (model X.prog X.w) X.A X.xe use Q' (.ref s2.heap.objs.size) HP.objs.size) s3 := by
      rintro s3 rfl
      subst hX
      have fr0 : ∀ b ∈ fp, upd H2 s2.heap.objs.size (.lst []) b = none := fun b hb => by
        rw [upd_ne (Nat.ne_of_lt (hfl b hb))]
        exact (f2 b hb).1
      refine codeAny_compLoop_tests (fun n s' => ∃ c : CW, n = ds.length - c.i ∧ CS (cxC X x scope HP.objs.size s2 H2 fp) pins σ tn fp Hi2 H2 s2.heap.objs.size 1 (fun i => compD t f ρ (ds.drop i)) es c s') ?_ ds.length
        ⟨⟨0, [none], _, Hi2, [], [], es⟩, rfl, ⟨IE, rfl, tn1, fr0, (Ext.refl e2.s).trans (Ext.newF e2.s H2D), upd_same, Hi2D, .nil, Nat.le_refl _, hes, rfl⟩⟩
      · rintro n s3 ⟨⟨i, vv, H3, Hi3, ys, done, rest⟩, rfl, I3, wd3, st3, fr3, e3, hD3, hiD3, rd3, hl3, hr3, hes3⟩
        dsimp only at I3 wd3 st3 fr3 e3 hD3 hiD3 rd3 hl3 hr3 hes3 ⊢
        obtain ⟨v, rfl⟩ : ∃ v, vv = [v] := by
          match vv, wd3 with
          | [v], _ => exact ⟨v, rfl⟩
        obtain ⟨w1, w2⟩ := gv Hi3 H3 e3.i e3.s i
        have lift : ∀ {α : Type} {m : Sem α} {Q' : α → Shared → Prop} {E : Value → Shared → Prop} {s' : Shared}, wpAny (model X.prog X.w) X.A m Q' (cxC X x scope HP.objs.size s2 H2 fp).xe s' → wpAny (model X.prog X.w) X.A m Q' E s' := fun h => wpAny_mono h (fun _ _ z => z) fun e s z => (Yxe e s z).elim
        by_cases hlt : i < ds.length
        · obtain ⟨d, hd⟩ : ∃ d, ds[i]? = some d := ⟨_, List.getElem?_eq_getElem hlt⟩
          obtain ⟨go, yl⟩ := w2 d hd
          have e4 : ds.drop i = d :: ds.drop (i + 1) := by
            rw [List.getElem?_eq_getElem hlt] at hd
            cases hd
            exact List.drop_eq_getElem_cons hlt
          rw [e4] at hr3
          refine thn (T.item (cxC X x scope HP.objs.size s2 H2 fp) rfl rfl rfl hc i pins s3 _ H3 _ I3 (stat fr3) st3 go) fun r s4 ⟨u, hru, h4⟩ => ?_
          subst hru
          refine go_name h4 fun s5 h5 => ?_
          obtain ⟨xv, H5, I5, r5, y5, st5, fr5⟩ := h5
          obtain ⟨Hi5, e5, rd5⟩ := yl xv H5 y5
          have I5' := I5.pinned (stat fr5) (T.obj _ _ st5)
          refine wpAny_assign_Name (store_ok I5' YN Yx (.inl Yl) r5 (fun s6 I6 => ?_) (.inr Yl))
          have es6 : (σ ++ [v]).set σ.length (some xv) = σ ++ [some xv] := by rw [List.set_append_right _ _ (Nat.le_refl _), Nat.sub_self]; rfl
          rw [es6] at I6
          have E5 : Ext Hi2 H2 Hi5 H5 := e3.trans e5
          have R5 : RelX (cxC X x scope HP.objs.size s2 H2 fp) ⟨G.B, G.Bi, fun _ _ => False⟩ Hi5 H5 (σ ++ [some xv]) (ρ ++ [.val d]) := Rel.snoc (R2.grow E5) rd5
          obtain ⟨hD5, hiD5⟩ := e5.out hD3 hiD3
          have rd5' := rd3.mono e5.i
          -- the next turn
          have again : ∀ {H8 Hi8 : Hp} {ys' : List V} {done' rest' : List D} {s8 : Shared}, Inv (cxC X x scope HP.objs.size s2 H2 fp) (pins ++ pinsAt fp s5.heap) (σ ++ [some xv]) H8 s8 → Ext Hi2 H2 Hi8 H8 → H8 s2.heap.objs.size = some (.lst ys') → Hi8 s2.heap.objs.size = none → IsDs X.K Hi8 ys' done' → done'.length ≤ i + 1 →
              compD t f ρ (ds.drop (i + 1)) = .ok rest' → es = done' ++ rest' → ∃ m, m < ds.length - i ∧ ∃ c : CW, m = ds.length - c.i ∧ CS (cxC X x scope HP.objs.size s2 H2 fp) pins σ tn fp Hi2 H2 s2.heap.objs.size 1 (fun i => compD t f ρ (ds.drop i)) es c s8 := fun {H8 Hi8 ys' done' rest' s8} I8 E8 a1 a2 a3 a4 a5 a6 => by
            refine ⟨ds.length - (i + 1), by omega, ⟨i + 1, [some xv], H8, Hi8, ys', done', rest'⟩, rfl, ⟨I8.unpinned, rfl, T.keep _ _ _ st5 fun b hb o e => (I8.pin (b, o) (List.mem_append_right _ (List.mem_append_right _ (mem_pinsAt hb e)))).1, fun b hb => ?_, E8, a1, a2, a3, a4, a5, a6⟩⟩
            obtain ⟨o, e, _⟩ := T.obj _ _ st5 b hb
            exact (I8.pin (b, o) (List.mem_append_right _ (List.mem_append_right _ (mem_pinsAt hb e)))).2.1
          rcases compD_cons hr3 with ⟨ht, hr4⟩ | ⟨ht, e, es', hf, hr4, hee⟩
          · refine lift (thn (hts _ s6 _ H5 (fun b H' => b = false ∧ ∃ Hi', Ext Hi5 H5 Hi' H') I6 ⟨_, Hi5, R5, by rw [ht]; exact fun Hi' H' e => ⟨rfl, Hi', e⟩⟩) fun b s7 h7 => ?_)
            obtain ⟨H7, I7, rfl, Hi7, e7⟩ := h7
            obtain ⟨hD7, hiD7⟩ := e7.out hD5 hiD5
            exact again I7 (E5.trans e7) hD7 hiD7 (rd5'.mono e7.i) (by omega) hr4 hes3
          · refine lift (thn (hts _ s6 _ H5 (fun b H' => b = true ∧ ∃ Hi', Ext Hi5 H5 Hi' H') I6 ⟨_, Hi5, R5, by rw [ht]; exact fun Hi' H' e => ⟨rfl, Hi', e⟩⟩) fun b s7 h7 => ?_)
            obtain ⟨H7, I7, rfl, Hi7, e7⟩ := h7
            obtain ⟨hD7, hiD7⟩ := e7.out hD5 hiD5
            simp only [if_true]
            refine lift (thn (hel _ s7 _ H7 (fun w H' => ∃ Hi', Ext Hi7 H7 Hi' H' ∧ IsD X.K Hi' w e) I7 ⟨_, Hi7, R5.grow e7, by rw [hf]; exact fun Hi' H' ee w hw => ⟨Hi', ee, hw⟩⟩) fun u8 s8 h8 => ?_)
            obtain ⟨w8, H8, I8, r8, Hi8, e8, rw8⟩ := h8
            obtain ⟨hD8, hiD8⟩ := e8.out hD7 hiD7
            have rdy : IsDs X.K Hi8 ys done := (rd5'.mono e7.i).mono e8.i
            refine lift (thn (mt_append (X := (cxC X x scope HP.objs.size s2 H2 fp)) _ s8 _ H8 (.ref s2.heap.objs.size) [w8] (.ref s2.heap.objs.size) [u8] (fun _ H' => H' = upd H8 s2.heap.objs.size (.lst (ys ++ [w8]))) I8 rfl (.cons r8 .nil) ⟨_, ys, w8, rfl, rfl, hD8, ?_, rfl⟩) fun _ s9 h9 => ?_)
            · rw [rdy.length]
              exact Nat.lt_of_le_of_lt hl3 (Nat.lt_of_lt_of_le hlt (Nat.le_trans hlen (by decide)))
            · obtain ⟨_, H9, I9, _, rfl⟩ := h9
              refine again I9 (Ext.rewrite ((E5.trans e7).trans e8) H2D hiD8) upd_same hiD8 (rdy.snoc rw8) (by rw [List.length_append]; exact Nat.succ_le_succ hl3) hr4 ?_
              rw [hes3, hee, List.append_assoc]; rfl
        · rw [List.drop_eq_nil_of_le (by omega), compD] at hr3
          cases hr3
          refine thn (T.done (cxC X x scope HP.objs.size s2 H2 fp) rfl rfl rfl hc i pins s3 _ H3 _ I3 (stat fr3) st3 (w1 (by omega))) fun r s4 ⟨hrn, I4⟩ => ?_
          subst hrn
          obtain ⟨m4, hn4, _⟩ := I4.loc
          have fC : H3 HP.objs.size = none := I4.free
          have nC : ∀ b u, H3 b = some u → b ≠ HP.objs.size := fun b u e z => by rw [z, fC] at e; cases e
          have U4 := I4.base
          refine hend HP.objs.size s2.heap.objs.size m4 s4 H3 hn4 (fun h' hs' => ?_) (I2.fpOk (by rw [hC]; omega) fC) ?_
          · have kp : ∀ b o, b ≠ HP.objs.size → s4.heap.get? b = some o → h'.get? b = some o := fun b o hb e => hs'.extBut b o hb e
            refine Inv.call' I2 (ch := fp) I4.os ⟨fun b o e n hb hx => kp b o (ltC e) (U4.keep b o e n hb hx), fun b o e n hb hx => ?_, U4.free, fun b o e hx => ?_, U4.tups, U4.frzs, U4.tbls⟩ (fun b u e => ?_) I4.bare (fun b hb => ⟨(f2 b hb).2.2.2.1, (f2 b hb).2.1, (f2 b hb).2.2.2.2.1, (f2 b hb).2.2.2.2.2⟩)
            · obtain ⟨sl, q⟩ := U4.slot b o e n hb hx
              exact ⟨sl, kp b _ (ltC e) q⟩
            · obtain ⟨o', q⟩ := U4.there b o e hx
              exact ⟨o', kp b _ (ltC e) q⟩
            · refine (I4.hok b u e).stay (fun c v hc q => kp c v ?_ q) (fun _ q => q) fun _ _ q => q
              rcases hc with z | z
              · rw [z]; exact nC b u e
              · exact nC c _ z
          · refine ou2 Hi3 H3 e3 _ ⟨HD, hiD3, ys, hD3, ?_⟩
            rw [hes3, List.append_nil]
            exact rd3
    rw [Ye] at loop
    exact codeAny_compStart_list (loop _ rfl) (T.self _ 0 _ _ _ tn1 (loop _ rfl))
theorem pf_comp (hc : X.calm = true) (hr : Room k X.A) (Bk : BlkOk X x scope) (hN : X.N.Nodup) (h0 : ("" : Str) ∉ X.N) (hx0 : x ≠ ("" : Str)) (hi : PId X G (.Name x px) iter it)
    (hb : ∀ (C : Addr) (s₂ : Shared) (H₂ : Hp) (fp : List Addr) (G' : Gx), Good (cxC X x scope C s₂ H₂ fp) G' k → PTs (cxC X x scope C s₂ H₂ fp) G' ifs t ∧ PEd (cxC X x scope C s₂ H₂ fp) G' elt f)
    (hs : ∀ x, foldedSetIterable iter X.env x = pure x := by intro _; rfl) : PEf X G (.ListComp elt [⟨.Name x px, iter, ifs, 0⟩] scope pos) (fComp it t f) := by
  intro pins s σ H Q I w
  obtain ⟨ρ, Hi, R, ou⟩ := w
  rw [eval_ListComp]
  refine comp_core hc hr Bk hN h0 hx0 hi hb hs (use := none) (Qa := fun a H' => Q (.ref a) H') I R ou fun C A m s4 H3 hn hI _ q => ?_
  exact ⟨m, hn, fun h' hs' => ⟨.ref A, H3, hI h' hs', rfl, q⟩⟩
/-- a comprehension whose value is stored while its block still stands -/
noncomputable def PC (X : Cx) (e : Expr) (t : TE) : Prop := ∀ (pins : List (Addr × Obj)) (s : Shared) (σ : St) (H : Hp) (Q : VK), Inv X pins σ H s → t σ H Q → ∀ (u : Value → Sem Unit) (Q' : Unit → Shared → Prop),
  (∀ (C : Addr) (m : Str → Option Value) (s4 : Shared) (v : V) (w : Value) (H3 : Hp), s4.heap.Ns C m → (∀ h', Heap.SameBut C s4.heap h' → Inv X pins σ H3 { s4 with heap := h' }) → FpOk X pins H3 C → RelV v w → Q v H3 →
    wpAny (model X.prog X.w) X.A (u w) (fun _ s'' => ∃ m, s''.heap.Ns C m ∧ ∀ h', Heap.SameBut C s''.heap h' → Q' () { s'' with heap := h' }) X.xe s4) → wpAny (model X.prog X.w) X.A (evalThenUse e X.env u) Q' X.xe s
theorem PC.wk {X : Cx} {e : Expr} {t t' : TE} (h : PC X e t) (w : ∀ σ H Q, t' σ H Q → t σ H Q) : PC X e t' := fun pins s σ H Q I q => h pins s σ H Q I (w σ H Q q)
@[irreducible] noncomputable def PCd (X : Cx) (G : Gx) (e : Expr) (f : Ev) : Prop := PC X e (tD X G f)
unseal PCd
@[irreducible] noncomputable def PCf (X : Cx) (G : Gx) (e : Expr) (f : Fv) : Prop := PC X e (tF X G f)
unseal PCf
theorem pc_comp (hc : X.calm = true) (hr : Room k X.A) (Bk : BlkOk X x scope) (hN : X.N.Nodup) (h0 : ("" : Str) ∉ X.N) (hx0 : x ≠ ("" : Str)) (hi : PId X G (.Name x px) iter it)
    (hb : ∀ (C : Addr) (s₂ : Shared) (H₂ : Hp) (fp : List Addr) (G' : Gx), Good (cxC X x scope C s₂ H₂ fp) G' k → PTs (cxC X x scope C s₂ H₂ fp) G' ifs t ∧ PEd (cxC X x scope C s₂ H₂ fp) G' elt f)
    (hs : ∀ x, foldedSetIterable iter X.env x = pure x := by intro _; rfl) : PCf X G (.ListComp elt [⟨.Name x px, iter, ifs, 0⟩] scope pos) (fComp it t f) := by
  intro pins s σ H Q I w u Q' hend
  obtain ⟨ρ, Hi, R, ou⟩ := w
  rw [arm_evalThenUse_ListComp]
  refine wpAny_bind (comp_core hc hr Bk hN h0 hx0 hi hb hs (use := some u) (Q' := fun _ s => wpAny (model X.prog X.w) X.A (pure ()) Q' X.xe s) (Qa := fun a H' => Q (.ref a) H') I R ou fun C A m s4 H3 hn hI fo q => ?_)
  refine thn (hend C m s4 (.ref A) (.ref A) H3 hn hI fo rfl q) fun _ s5 h5 => ?_
  obtain ⟨m5, hn5, h5⟩ := h5
  exact ⟨m5, hn5, fun h' hs' => wpAny_pure (h5 h' hs')⟩
theorem PCf.d (h : PCf X G e fs) : PCd X G e (eF fs) := PC.wk h fun σ H Q q => by
  obtain ⟨ρ, Hi, R, ou⟩ := q
  refine ⟨ρ, Hi, R, ?_⟩
  cases z : fs ρ with
  | no => unfold eF at ou; rw [z] at ou; exact ou
  | err c => unfold eF at ou; rw [z] at ou; exact ou
  | ok ds =>
    unfold eF at ou; rw [z] at ou
    intro Hi1 H1 e1 a n
    obtain ⟨n1, n2, xs, n3, n4⟩ := n
    have o2 : ∀ Hi' H', Ext Hi H Hi' H' → ∀ v, IsD X.K Hi' v (.lst ds) → Q v H' := ou
    exact o2 _ _ (e1.hold n1 n3 n2) (.ref a) (.lst (SqL.of upd_same) (n4.mono (same_new' n2 _)))
/-- a name takes a comprehension's value -/
theorem ps_setC {i : Nat} {y : Str} {e : Expr} {te : TE} {pos' pos : Pos} (hN : X.N.Nodup) (hi : X.N[i]? = some y) (hx : Loc X.env.scope y) (he : PC X e te) (hs : swapsWith e (some (.Name y pos')) pos.line X.env = pure true)
    (hf : X.fn y = true ∨ X.env.scope.names.lookup y = some .local) : PS X (.Assign [.Name y pos'] e pos) (tAsg te (L2.gName i)) := by
  intro pins s σ H E I h
  rw [exec_Assign_Name_used _ _ _ _ hs]
  refine wpAny_bind (wpAny_standAt (wpAny_bind ?_))
  refine he pins s σ H _ I h _ _ fun C m s4 v w H3 hn hI fo r q => ?_
  have I4 : Inv X pins σ H3 s4 := hI s4.heap (Heap.SameBut.refl _ _)
  refine wpAny_assign_Name (store_ok2 I4 hN hi hx r (fun s5 I5 sb => ?_) hf)
  obtain ⟨a, sb, ha⟩ := sb
  have aC : C ≠ a := by
    rcases ha with rfl | ha
    · exact fo.2.1
    · exact fun z => fo.2.2.2.2.1 y a ha z.symm
  refine ⟨m, hn.sameBut sb aC, fun h' hs' => wpAny_pure ?_⟩
  have fC := fo.1
  have nC : ∀ b u, H3 b = some u → b ≠ C := fun b u e z => by rw [z, fC] at e; cases e
  have kp : ∀ b o, b ≠ C → s5.heap.get? b = some o → h'.get? b = some o := fun b o hb e => hs'.extBut b o hb e
  refine ⟨σ.set i (some v), H3, ?_, q⟩
  refine Inv.call' I5 (ch := [C]) rfl ⟨fun b o e n hb hx => kp b o (by simpa using hx) e, fun b o e n hb hx => ⟨o.slots, kp b _ (by simpa using hx) e⟩, fun b o e n hx => n, fun b o e hx => ⟨o, kp b _ (by simpa using hx) e⟩, fun _ _ q => q, fun _ _ _ q => q, fun _ ps q => ⟨#[], by simpa using q⟩⟩ (fun b u e => ?_) I5.bare (fun b hb => ?_)
  · refine (I5.hok b u e).stay (fun c v hc q => kp c v ?_ q) (fun _ q => q) fun _ _ q => q
    rcases hc with z | z
    · rw [z]; exact nC b u e
    · exact nC c _ z
  · have e : b = C := by simpa using hb
    subst e
    exact ⟨fo.2.2.2.1, fo.2.1, fo.2.2.2.2.1, fo.2.2.2.2.2⟩
theorem s_setC {i : Nat} {y : Str} {e : Expr} {f : Ev} {pos' pos : Pos} (hN : X.N.Nodup) (hi : X.N[i]? = some y) (hx : Loc X.env.scope y) (he : PCd X G e f) (hs : swapsWith e (some (.Name y pos')) pos.line X.env = pure true)
    (hf : X.fn y = true ∨ X.env.scope.names.lookup y = some .local := by first | exact .inl rfl | exact .inr rfl | assumption) : PSd X G (.Assign [.Name y pos'] e pos) (sSet i f) := PS.wk (ps_setC hN hi hx he hs hf) fun E σ H q => by
  obtain ⟨ρ, Hi, R, h⟩ := q
  exact ⟨ρ, Hi, R, finOf R h fun d Hi' H' _ e h' v r => h' _ Hi' H' (Same.refl _) ((R.grow e).set r)⟩
end
end L3

namespace L3
open PySem PySem.Spec PyProof.Rows L2
unseal PEd PEf PTd PWd PAd PSd PSsd POd PGd PGsd PId PSx PSsx PTs PCd PCf
noncomputable def blkB (sc : Scope) (N : List Str) (x : Str) (scope : Scope) : Bool :=
  scope.names.all (fun y => y.2 != .cell) && scope.names.lookup x == some .local && scope.names.all (fun y => y.2 != .local || scope.names.lookup y.1 == some .local)
    && scope.names.all (fun p => p.2 != .free || (sc.names.lookup p.1 == some .cell || sc.names.lookup p.1 == some .free)) && N.all (fun y => y == x || scope.names.lookup y != some .local) && (scope.names.lookup ("" : Str)).isNone && !N.contains ("" : Str) && x != ("" : Str)
section
variable {X : Cx} {G : Gx} {elt iter : Expr} {x : Str} {px pos : Pos} {ifs : List Expr} {scope sc : Scope} {it : Fv} {t : Tv} {f : Ev} {k : Nat} {N : List Str}
theorem blk_mk (hk : scope.kind = .function) (hsc : X.env.scope = sc) (hN : X.N = N) (h : blkB sc N x scope = true) : BlkOk X x scope ∧ ("" : Str) ∉ X.N ∧ x ≠ ("" : Str) := by
  unfold blkB at h
  simp only [Bool.and_eq_true] at h
  obtain ⟨⟨⟨⟨⟨⟨⟨h1, h2⟩, h3⟩, h4⟩, h5⟩, h6⟩, h7⟩, h8⟩ := h
  subst hN hsc
  refine ⟨⟨hk, fun y hy e => ?_, beq_iff_eq.mp h2, fun y hy e => ?_, fun p hp e => ?_, fun y hy hne e => ?_, ?_⟩, fun z => ?_, fun z => ?_⟩
  · have := List.all_eq_true.mp h1 y hy
    rw [e] at this; cases this
  · have := List.all_eq_true.mp h3 y hy
    rw [e] at this
    simpa using this
  · have := List.all_eq_true.mp h4 p hp
    rw [e] at this
    have q : X.env.scope.names.lookup p.1 = some .cell ∨ X.env.scope.names.lookup p.1 = some .free := by simpa using this
    exact q
  · have := List.all_eq_true.mp h5 y hy
    rw [e] at this
    simp [hne] at this
  · simpa using h6
  · have : X.N.contains ("" : Str) = true := by simpa using z
    rw [this] at h7; cases h7
  · rw [z] at h8; simp at h8
theorem pf_compB (W : Good X G k) (hnd : N.Nodup) (hk : scope.kind = .function) (hsc : X.env.scope = sc) (hN : X.N = N) (h : blkB sc N x scope = true) (hi : PId X G (.Name x px) iter it)
    (hb : ∀ (C : Addr) (s₂ : Shared) (H₂ : Hp) (fp : List Addr) (G' : Gx), Good (cxC X x scope C s₂ H₂ fp) G' k → PTs (cxC X x scope C s₂ H₂ fp) G' ifs t ∧ PEd (cxC X x scope C s₂ H₂ fp) G' elt f)
    (hs : ∀ x, foldedSetIterable iter X.env x = pure x := by intro _; rfl) : PEf X G (.ListComp elt [⟨.Name x px, iter, ifs, 0⟩] scope pos) (fComp it t f) := by
  obtain ⟨b, h0, hx⟩ := blk_mk hk hsc hN h
  exact pf_comp W.calm W.room b (hN ▸ hnd) h0 hx hi hb hs
theorem pc_compB (W : Good X G k) (hnd : N.Nodup) (hk : scope.kind = .function) (hsc : X.env.scope = sc) (hN : X.N = N) (h : blkB sc N x scope = true) (hi : PId X G (.Name x px) iter it)
    (hb : ∀ (C : Addr) (s₂ : Shared) (H₂ : Hp) (fp : List Addr) (G' : Gx), Good (cxC X x scope C s₂ H₂ fp) G' k → PTs (cxC X x scope C s₂ H₂ fp) G' ifs t ∧ PEd (cxC X x scope C s₂ H₂ fp) G' elt f)
    (hs : ∀ x, foldedSetIterable iter X.env x = pure x := by intro _; rfl) : PCf X G (.ListComp elt [⟨.Name x px, iter, ifs, 0⟩] scope pos) (fComp it t f) := by
  obtain ⟨b, h0, hx⟩ := blk_mk hk hsc hN h
  exact pc_comp W.calm W.room b (hN ▸ hnd) h0 hx hi hb hs
end
end L3

namespace L3
open PySem PySem.Spec PyProof.Rows L2
unseal PEd PEf PTd PWd PAd PSd PSsd POd PGd PGsd PId PSx PSsx PTs PCd PCf
section
variable {X : Cx} {G : Gx} {a b : Expr} {pos : Pos} {f : Fv} {g : Ev}
end
/-! an argument that is no star, by its kind: nothing of it need be unfolded -/
section
variable {es r : List Expr} {a b f : Expr} {k : Nat} {p : Pos} {x : Str} {c : Const} {env : Env}
theorem star_tup : starEach (.Tuple es k p :: r) env = (false, eval (.Tuple es k p) env) :: starEach r env := rfl
theorem star_lst : starEach (.List es p :: r) env = (false, eval (.List es p) env) :: starEach r env := rfl
theorem star_bin {o : Operator} : starEach (.BinOp a o b p :: r) env = (false, eval (.BinOp a o b p) env) :: starEach r env := rfl
theorem star_sub : starEach (.Subscript a b p :: r) env = (false, eval (.Subscript a b p) env) :: starEach r env := rfl
theorem star_nm : starEach (.Name x p :: r) env = (false, eval (.Name x p) env) :: starEach r env := rfl
theorem star_c : starEach (.Constant c k p :: r) env = (false, eval (.Constant c k p) env) :: starEach r env := rfl
theorem star_call {ks : List Keyword} : starEach (.Call f es ks p :: r) env = (false, eval (.Call f es ks p) env) :: starEach r env := rfl
end
end L3

namespace L3
open PySem PySem.Spec PyProof.Rows L2
unseal PEd PEf PTd PWd PAd PSd PSsd POd PGd PGsd PId PSx PSsx PTs PCd PCf
section
variable {X : Cx} {G : Gx} {e st : Expr} {te tk : TE} {lo hi : Option Expr} {tl th : TO} {pos p2 : Pos} {f g : Ev} {l h : Ov}
end
end L3

set_option maxRecDepth 100000
namespace L3
open PySem PySem.Spec PyProof.Rows L2
section
variable {prog : Program} {w : World} {A : Around} {E : Value → Shared → Prop} {s : Shared}
end
section
unseal PEd PEf PTd PWd PAd PSd PSsd POd PGd PGsd PId PSx PSsx PTs PCd PCf
variable {X : Cx} {G : Gx} {fs : Fv} {f : Ev}
end
end L3

namespace L3
open PySem PySem.Spec PyProof.Rows L2
unseal PEd PEf PTd PWd PAd PSd PSsd POd PGd PGsd PId PSx PSsx PTs PCd PCf
section
variable {X : Cx} {G : Gx}
/-! ### sum(list of numbers) -/
noncomputable def rSum (K : PySem.W.Frag) : List V → Hp → VK → Prop := fun xs H Q => ∃ (a : Addr) (ns : List Int), xs = [.ref a] ∧ (SqL K H a (ns.map V.int) ∨ SqT K H a (ns.map V.int)) ∧ Q (.int ns.sum) H
theorem preSum_at (ns : List Int) : ∀ j, preSum (fun i => ns.getD i 0) j = (ns.take j).sum
  | 0 => by rw [List.take_zero]; rfl
  | j + 1 => by
    rw [preSum, preSum_at ns j, List.take_succ]
    rw [List.getD_eq_getElem?_getD]
    cases ns[j]? with
    | none => simp
    | some x => simp
theorem vals_at {ns : List Int} {its : List Value} (r : Vals (ns.map V.int) its) {i : Nat} {v : Value} (h : its[i]? = some v) : ∃ t, v = .int (ns.getD i 0) t := by
  have hl := r.length
  rw [List.length_map] at hl
  have hi := (List.getElem?_eq_some_iff.mp h).1
  have hx : (ns.map V.int)[i]? = some (.int (ns.getD i 0)) := by
    rw [List.getElem?_map, List.getD_eq_getElem?_getD, List.getElem?_eq_getElem (by omega)]
    rfl
  obtain ⟨u, hu, ru⟩ := r.get hx
  rw [h] at hu
  cases hu
  exact ru
theorem call_sum (hc : X.calm = true) : CallR X (.builtin "sum") (rSum X.K) := by
  intro pins s σ H xs us Q I r h
  obtain ⟨a, ns, rfl, hq, q⟩ := h
  obtain ⟨u, rfl, ru⟩ := r.one
  cases ru
  have hh := I.ok.hd hc
  rcases hq with hq | hq
  · obtain ⟨its, rv, p, hz⟩ := I.list hq
    have hlt : a < s.heap.objs.size := by obtain ⟨_, e, _⟩ := p.isList; exact Heap.lt_size e
    have hl := rv.length
    rw [List.length_map] at hl
    refine call_sum_walkG (wpAny_pyIter_list p.isList ?_)
    refine ⟨s.heap.objs.size, _, _, _, _, _, fun i => ns.getD i 0, rfl, Walks.list (A := X.A.in1) hh s.heap.objs.size a (Nat.ne_of_lt hlt) its.toArray, ⟨⟨_, Heap.get?_push_size _ rfl, rfl, rfl⟩, p.isList.push _⟩, fun b hb => ?_, fun i v hv => vals_at rv (by simpa using hv), fun h' tk t' hk => ?_⟩
    · show b < (s.heap.push _).objs.size
      rw [Heap.size_push]
      rcases List.mem_cons.mp hb with rfl | hb
      · exact Nat.lt_succ_self _
      · rcases List.mem_cons.mp hb with rfl | hb
        · exact Nat.lt_succ_of_lt hlt
        · cases hb
    · refine ⟨.int ns.sum, H, I.kept (t' := tk) fun b o e => hk b o (fun z => ?_) (Heap.get?_push_of_some _ e), ⟨t', ?_⟩, q⟩
      · have z' : b = s.heap.objs.size := by simpa using z
        have l := Heap.lt_size e
        rw [z'] at l
        exact Nat.lt_irrefl _ l
      · rw [List.size_toArray, ← hl, preSum_at, List.take_length]
  · obtain ⟨its, rv, p, hz⟩ := I.tuple hq
    have p' : s.heap.IsTuple a its.toArray := p
    have hlt : a < s.heap.objs.size := by obtain ⟨_, e, _⟩ := p'; exact Heap.lt_size e
    have hl := rv.length
    rw [List.length_map] at hl
    refine call_sum_walkG (wpAny_pyIter_tuple p' ?_)
    refine ⟨s.heap.objs.size, _, _, _, _, _, fun i => ns.getD i 0, rfl, Walks.tuple (A := X.A.in1) hh s.heap.objs.size a (Nat.ne_of_lt hlt) its.toArray, ⟨⟨_, Heap.get?_push_size _ rfl, rfl, rfl⟩, p'.push _⟩, fun b hb => ?_, fun i v hv => vals_at rv (by simpa using hv), fun h' tk t' hk => ?_⟩
    · show b < (s.heap.push _).objs.size
      rw [Heap.size_push]
      rcases List.mem_cons.mp hb with rfl | hb
      · exact Nat.lt_succ_self _
      · rcases List.mem_cons.mp hb with rfl | hb
        · exact Nat.lt_succ_of_lt hlt
        · cases hb
    · refine ⟨.int ns.sum, H, I.kept (t' := tk) fun b o e => hk b o (fun z => ?_) (Heap.get?_push_of_some _ e), ⟨t', ?_⟩, q⟩
      · have z' : b = s.heap.objs.size := by simpa using z
        have l := Heap.lt_size e
        rw [z'] at l
        exact Nat.lt_irrefl _ l
      · rw [List.size_toArray, ← hl, preSum_at, List.take_length]
theorem isDs_intsD {K : PySem.W.Frag} {H : Hp} : ∀ {xs : List V} {ds : List D} {ns : List Int}, IsDs K H xs ds → intsD ds = some ns → xs = ns.map V.int
  | _, _, ns, .nil, h => by cases h; rfl
  | _, _, ns, .cons (d := d) (ds := ds) r rs, h => by
    cases d with
    | int i =>
      rw [intsD] at h
      cases z : intsD ds with
      | none => rw [z] at h; cases h
      | some ms =>
        rw [z] at h
        cases h
        rw [r.intI, isDs_intsD rs z]
        rfl
    | _ => cases h
theorem kb_sum : CallK X (rSum X.K) bSum := ⟨fun a c z => (by
    unfold bSum at z
    split at z
    · split at z <;> cases z
    · split at z <;> cases z
    · cases z), fun Hi H vs ds d Q s r z q => by
    unfold bSum at z
    split at z
    · split at z
      · rename_i ns hns
        cases z
        obtain ⟨v, rfl, h⟩ := r.one
        obtain ⟨a, xs, rfl, h1, h2⟩ := h.lstI
        have e := isDs_intsD h2 hns
        subst e
        exact ⟨a, ns, rfl, .inl (sqL_mono s h1), q _ Hi H (Ext.refl s) (.int _)⟩
      · cases z
    · split at z
      · rename_i ns hns
        cases z
        obtain ⟨v, rfl, h⟩ := r.one
        obtain ⟨a, xs, rfl, h1, h2⟩ := h.tupI
        have e := isDs_intsD h2 hns
        subst e
        exact ⟨a, ns, rfl, .inr (sqT_mono s h1), q _ Hi H (Ext.refl s) (.int _)⟩
      · cases z
    · cases z⟩
theorem boot_sum2 : bootBuiltins "sum" = some (.builtin "sum") := by first | rfl | decide +kernel
end
end L3

namespace L3
open PySem PySem.Spec PyProof.Rows L2
unseal PEd PEf PTd PWd PAd PSd PSsd POd PGd PGsd PId PSx PSsx PTs PCd PCf
/-! ### a, b = list -/
section
variable {prog : Program} {w : World} {A : Around} {E : Value → Shared → Prop} {s : Shared}
end
section
variable {X : Cx} {G : Gx} {es : List Expr} {pos : Pos}
end
theorem ln0 {α : Type} {us : List α} (h : us.length = 0) : us = [] := List.eq_nil_of_length_eq_zero h
theorem ln1 {α : Type} {us : List α} (h : us.length = 1) : ∃ a0 : α, us = [a0] := by
  cases us with
  | nil => cases h
  | cons a r =>
    cases ln0 (Nat.succ.inj h)
    exact ⟨a, rfl⟩
theorem ln2 {α : Type} {us : List α} (h : us.length = 2) : ∃ a0 a1 : α, us = [a0, a1] := by
  cases us with
  | nil => cases h
  | cons a r =>
    obtain ⟨a1, rfl⟩ := ln1 (Nat.succ.inj h)
    exact ⟨a, a1, rfl⟩
theorem ln3 {α : Type} {us : List α} (h : us.length = 3) : ∃ a0 a1 a2 : α, us = [a0, a1, a2] := by
  cases us with
  | nil => cases h
  | cons a r =>
    obtain ⟨a1, a2, rfl⟩ := ln2 (Nat.succ.inj h)
    exact ⟨a, a1, a2, rfl⟩
end L3

namespace L3
open PySem PySem.Spec PyProof.Rows L2
unseal PEd PEf PTd PWd PAd PSd PSsd POd PGd PGsd PId PSx PSsx PTs PCd PCf
section
variable {X : Cx} {G : Gx} {a b c e : Expr} {pos p2 : Pos} {f g h : Ev} {fs : Fv} {lo hi : Option Expr} {l u : Ov}
theorem isDs_boolsD {K : PySem.W.Frag} {H : Hp} : ∀ {xs : List V} {ds : List D} {bs : List Bool}, IsDs K H xs ds → boolsD ds = some bs → xs = bs.map V.bl
  | _, _, _, .nil, h => by cases h; rfl
  | _, _, _, .cons (d := d) (ds := ds) r rs, h => by
    cases d with
    | bl i =>
      rw [boolsD] at h
      cases z : boolsD ds with
      | none => rw [z] at h; cases h
      | some ms =>
        rw [z] at h
        cases h
        rw [r.blI, isDs_boolsD rs z]
        rfl
    | _ => cases h
end
end L3

namespace L3
open PySem PySem.Spec PyProof.Rows L2
unseal PEd PEf PTd PWd PAd PSd PSsd POd PGd PGsd PId PSx PSsx PTs PCd PCf
section
variable {X : Cx} {G : Gx} {a b c e : Expr} {pos p2 p : Pos} {f g h : Ev} {fs : Fv} {x : Str}
/-- a block of which nothing is said -/
theorem ss_no {bl : List Stmt} : PSsd X G bl sNo := fun pins s σ H E I q => by
  obtain ⟨ρ, Hi, R, ou⟩ := q
  exact ou.elim
/-! ### a table of texts at the top of the text -/
noncomputable def tabD (T : List (Str × Str)) : List (Str × KTD.Dat) := T.map fun q => (q.1, .flat (.str q.2))
structure IsTab (K : PySem.W.Frag) (mg : Str → Option Value) (x : Str) (T : List (Str × Str)) (a : Addr) : Prop where
  mg : mg x = some (.ref a)
  tab : ∀ h : Heap, K.In h → KTD.TextTab h a (tabD T)
theorem at_tabD (k : Str) : ∀ T : List (Str × Str), KTD.datumAt k (tabD T) = (T.lookup k).map fun y => .flat (.str y)
  | [] => rfl
  | (x, y) :: r => by
    show (if decide (k = x) = true then some (KTD.Dat.flat (.str y)) else KTD.datumAt k (tabD r)) = _
    rw [List.lookup_cons]
    by_cases hx : k = x
    · rw [if_pos (decide_eq_true hx), show (k == x) = true from beq_iff_eq.mpr hx]; rfl
    · rw [if_neg (by simp [hx]), show (k == x) = false from beq_eq_false_iff_ne.mpr hx]; exact at_tabD k r
theorem in_tabD (k : Str) (T : List (Str × Str)) : KTD.inKeys k (tabD T) = (T.lookup k).isSome := by
  rw [← KTD.isSome_datumAt, at_tabD, Option.isSome_map]
theorem pe_tab {T : List (Str × Str)} {ad : Addr} (t : IsTab X.K X.mg x T ad) (hg : Gl X x) (hd : (x == ("__debug__" : Str)) = false := by decide) : PE X (.Name x p) (tC (.ref ad)) := pe_glob hg t.mg rfl hd
theorem op_notTab {T : List (Str × Str)} {ad : Addr} (t : IsTab X.K X.mg x T ad) : OpR X (compareOp .NotIn) (fun v y H Q => ∃ k, v = .str k ∧ y = .ref ad ∧ Q (.bl (!(T.lookup k).isSome)) H) := by
  intro pins s σ H v y u w Q I rx ry h
  obtain ⟨k, rfl, rfl, q⟩ := h
  obtain ⟨tk, rfl⟩ := rx
  cases ry
  refine KTD.notin_text ⟨t.tab s.heap I.kIn, fun _ _ e => e⟩ ?_
  rw [in_tabD]
  exact ⟨.bl _, H, I.tok _, rfl, q⟩
theorem unT {o : D → Res D} {r : R2} {y : V} (hr : ∀ (Hi H : Hp) (v : V) (d : D) (Q : VK), IsD X.K Hi v d → Same Hi H → (∃ d', o d = .ok d' ∧ (∀ w Hi' H', Ext Hi H Hi' H' → IsD X.K Hi' w d' → Q w H')) → r v y H Q)
    (he : ∀ d c, o d ≠ .err c) : ∀ σ H Q, tD X G (eUn o f) σ H Q → tOp r (tD X G f) (tC y) σ H Q := fun σ H Q q => by
  obtain ⟨ρ, Hi, R, ou⟩ := q
  refine out2 R ou fun v d Hi1 H1 e1 R1 r1 o1 => ?_
  cases z : o d with
  | no => rw [z] at o1; exact o1.elim
  | err c => exact absurd z (he d c)
  | ok d' => rw [z] at o1; exact hr Hi1 H1 v d Q r1 R1.s ⟨d', z, fun w Hi' H' e1 r1 => o1 Hi' H' e1 w r1⟩
theorem unNotT {T : List (Str × Str)} {ad : Addr} : ∀ σ H Q, tD X G (eUn (oTabNot T) f) σ H Q → tOp (fun v y H Q => ∃ k, v = .str k ∧ y = .ref ad ∧ Q (.bl (!(T.lookup k).isSome)) H) (tD X G f) (tC (.ref ad)) σ H Q :=
  unT (fun Hi H v d Q r s h => by
    obtain ⟨d', z, q⟩ := h
    unfold oTabNot at z
    split at z
    · cases z; exact ⟨_, r.strI, rfl, q _ Hi H (Ext.refl s) (.bl _)⟩
    · cases z) fun d c z => by unfold oTabNot at z; split at z <;> cases z
theorem tst_of {op : CmpOp} {o : D → Res D} {r : R2} {y : V} (hp : PT X (.Compare a [op] [b] pos) (tTest (tOp r (tD X G f) (tC y)))) (hu : ∀ σ H Q, tD X G (eUn o f) σ H Q → tOp r (tD X G f) (tC y) σ H Q) : PTd X G (.Compare a [op] [b] pos) (tVal (eUn o f)) :=
  PT.wk hp fun σ H Q q => by
    obtain ⟨ρ, Hi, R, ou⟩ := q
    refine hu σ H _ ⟨ρ, Hi, R, ou.bind.imp fun d Hi' H' e o v r => ?_⟩
    cases d with
    | bl c => rw [r.blI]; exact ⟨c, rfl, o.here e.s⟩
    | _ => exact o.elim
theorem tst_notT {T : List (Str × Str)} {ad : Addr} (t : IsTab X.K X.mg x T ad) (hg : Gl X x) (ha : PEd X G a f) (hm : behindInMarks .NotIn (.Name x p) = false) (hd : (x == ("__debug__" : Str)) = false := by decide) : PTd X G (.Compare a [.NotIn] [.Name x p] pos) (tVal (eUn (oTabNot T) f)) :=
  tst_of (pt_cmpR (op_notTab t) ha (pe_tab t hg hd) hm) unNotT
end
end L3

namespace L3
open PySem PySem.Spec PyProof.Rows L2
unseal PEd PEf PTd PWd PAd PSd PSsd POd PGd PGsd PId PSx PSsx PTs PCd PCf
/-! ### max of a list, with or without a default -/
section
variable {prog : Program} {w : World} {A : Around} {R : Result → Shared → Prop} {I : Addr} {fp wr : List Addr} {n : Nat} {P : Nat → Value → Prop} {St : Nat → Heap → Prop} {kw : List (Str × Value)}
noncomputable def MxEnd (R : Result → Shared → Prop) (wr : List Addr) (S : Addr) (s : Shared) (P : Value → Prop) : Prop :=
  ∀ v h' tk, P v → (∀ b o, b ∉ wr → b ≠ S → s.heap.get? b = some o → h'.get? b = some o) → R (.ok (.ret v)) { s with heap := h', toks := tk }
noncomputable def MxAt (s : Shared) (S : Addr) (vs : Array Value) (c : Nat) : Prop := s.heap.get? S = some { cls := .type "list", dict := none, data := .seq vs c, slots := #[] }
theorem mxName : (toString "max" ++ toString ".loop" : String) = "max.loop" := by decide
theorem mx_loop (W : Walks prog w A.in1 I fp wr n P St) (bt : Nat → Nat → Bool) (hcmp : CmpOf prog w A.in1 .Gt P bt) (S : Addr) (hSf : S ∉ fp) :
    ∀ (k j : Nat) (s : Shared) (vb : Value) (c : Nat), n - (j + 1) = k → j + 1 ≤ n → St (j + 1) s.heap → P (argBest bt j) vb → MxAt s S #[vb, vb] c → MxEnd R wr S s (P (argBest bt (n - 1))) →
    codeAny (model prog w) A (.builtin "max.loop" ⟨[.ref I, .none, .ref S], kw⟩) R s := by
  have hSw : S ∉ wr := fun h => hSf (W.sub _ h)
  intro k
  induction k with
  | zero =>
    intro j s vb c hk hj hst hPb hS hR
    have hin : j + 1 = n := by omega
    refine codeAny_builtin F.entry_max_loop ?_; rw [Around.under_plainId F.plain_max_loop _]
    refine wpAny_bind (wpAny_seqItems hS rfl ?_)
    refine wpAny_bind (m := tryCatch (pyNext (.ref I)) _) (wpAny_tryCatch (W.done s _ _ (hin ▸ hst) fun h' tk hk' => ?_))
    have hS' := hk' S _ hSw hS
    refine wpAny_bind (m := updateSeq S (fun _ => #[])) (wpAny_updateSeq hS' rfl (wpAny_bind (wpAny_letGo (wpAny_pure ?_))))
    exact hR vb _ tk (by rw [← hin]; exact hPb) fun b o hbw hbS e => (Heap.get?_update_other _ _ (Ne.symm hbS)).trans (hk' b o hbw e)
  | succ k ih =>
    intro j s vb c hk hj hst hPb hS hR
    have hlt : j + 1 < n := by omega
    refine codeAny_builtin F.entry_max_loop ?_; rw [Around.under_plainId F.plain_max_loop _]
    refine wpAny_bind (wpAny_seqItems hS rfl ?_)
    refine wpAny_bind (m := tryCatch (pyNext (.ref I)) _) (wpAny_tryCatch (W.item (j + 1) s _ _ hlt hst fun v h' tk hP hst' hk' => ?_))
    have hS' := hk' S _ hSw hS
    refine wpAny_bind (m := tryCatch (holding [v, v] (richCompare .Gt v vb >>= _)) _) (wpAny_tryCatch (wpAny_holding (wpAny_bind (hcmp (j + 1) (argBest bt j) v vb _ _ _ hP hPb ?_))))
    refine wpAny_bind (wpAny_holding (wpAny_truthy_bool (wpAny_bind (wpAny_letGo (wpAny_pure ?_)))))
    cases hb : bt (j + 1) (argBest bt j) with
    | true =>
      simp only [if_true]
      refine wpAny_bind ?_; refine wpAny_updateSeq hS' rfl (wpAny_bind (wpAny_letGo ?_)); rw [mxName]
      refine wpAny_pure ⟨plainId_quiet F.plain_max_loop _, ih (j + 1) _ v _ (by omega) hlt (W.frame _ _ _ hst' fun b hbf o e => (Heap.get?_update_other _ _ (fun h : S = b => hSf (by rw [h]; exact hbf))).trans e) (by simp only [argBest, hb, if_true]; exact hP) (Heap.get?_update_self _ hS' rfl) fun v' h'' tk'' hP' hk'' => ?_⟩
      exact hR v' h'' tk'' hP' fun b o hbw hbS e => hk'' b o hbw hbS ((Heap.get?_update_other _ _ (Ne.symm hbS)).trans (hk' b o hbw e))
    | false =>
      simp only [Bool.false_eq_true, if_false]
      refine wpAny_bind (wpAny_letGo ?_); rw [mxName]
      exact wpAny_pure ⟨plainId_quiet F.plain_max_loop _, ih (j + 1) _ vb c (by omega) hlt hst' (by simp only [argBest, hb, Bool.false_eq_true, if_false]; exact hPb) hS' fun v' h'' tk'' hP' hk'' => hR v' h'' tk'' hP' fun b o hbw hbS e => hk'' b o hbw hbS (hk' b o hbw e)⟩
theorem mx_first (W : Walks prog w A.in1 I fp wr n P St) (bt : Nat → Nat → Bool) (hcmp : CmpOf prog w A.in1 .Gt P bt) (S : Addr) (hSf : S ∉ fp) (hn : 0 < n) {s : Shared} {c : Nat} (hst : St 0 s.heap) (hS : MxAt s S #[] c) (hR : MxEnd R wr S s (P (argBest bt (n - 1)))) :
    codeAny (model prog w) A (.builtin "max.loop" ⟨[.ref I, .none, .ref S], kw⟩) R s := by
  have hSw : S ∉ wr := fun h => hSf (W.sub _ h)
  refine codeAny_builtin F.entry_max_loop ?_; rw [Around.under_plainId F.plain_max_loop _]
  refine wpAny_bind (wpAny_seqItems hS rfl ?_)
  refine wpAny_bind (m := tryCatch (pyNext (.ref I)) _) (wpAny_tryCatch (W.item 0 s _ _ hn hst fun v h' tk hP hst' hk' => ?_))
  have hS' := hk' S _ hSw hS
  refine wpAny_bind (m := updateSeq S (fun _ => #[v, v])) (wpAny_updateSeq hS' rfl ?_); rw [mxName]
  refine wpAny_pure ⟨plainId_quiet F.plain_max_loop _, mx_loop W bt hcmp S hSf _ 0 _ v _ rfl hn (W.frame _ _ _ hst' fun b hbf o e => (Heap.get?_update_other _ _ (fun h : S = b => hSf (by rw [h]; exact hbf))).trans e) hP (Heap.get?_update_self _ hS' rfl) fun v' h'' tk'' hP' hk'' => ?_⟩
  exact hR v' h'' tk'' hP' fun b o hbw hbS e => hk'' b o hbw hbS ((Heap.get?_update_other _ _ (Ne.symm hbS)).trans (hk' b o hbw e))
/-- nothing there: the default -/
theorem mx_none {x : Str} {d : Value} (W : Walks prog w A.in1 I fp wr 0 P St) (S : Addr) (hSf : S ∉ fp) {s : Shared} {c : Nat} (hst : St 0 s.heap) (hS : MxAt s S #[] c) (hR : MxEnd R wr S s (· = d)) :
    codeAny (model prog w) A (.builtin "max.loop" ⟨[.ref I, .none, .ref S], [(x, d)]⟩) R s := by
  refine codeAny_builtin F.entry_max_loop ?_; rw [Around.under_plainId F.plain_max_loop _]
  refine wpAny_bind (wpAny_seqItems hS rfl ?_)
  refine wpAny_bind (m := tryCatch (pyNext (.ref I)) _) (wpAny_tryCatch (W.done s _ _ hst fun h' tk hk' => ?_))
  exact wpAny_bind (wpAny_rule (wpAny_pure (hR d h' tk rfl fun b o hbw _ e => hk' b o hbw e)))
end
section
variable {X : Cx} {G : Gx} {a c : Expr} {pos p kp : Pos} {f g : Ev}
theorem maxI_at (num : Nat → Int) : ∀ k, num (argBest (fun i j => decide (num i > num j)) k) = maxI (num 0) ((List.range k).map fun i => num (i + 1))
  | 0 => rfl
  | k + 1 => by
    rw [List.range_succ, List.map_append]
    have app : ∀ (l : List Int) (a b : Int), maxI a (l ++ [b]) = if b > maxI a l then b else maxI a l := by
      intro l
      induction l with
      | nil => intro a b; rfl
      | cons x r ih => intro a b; rw [List.cons_append, maxI, ih, maxI]
    rw [List.map_singleton, app, ← maxI_at num k]
    show num (if decide (num (k + 1) > num (argBest _ k)) = true then k + 1 else argBest _ k) = _
    by_cases h : num (k + 1) > num (argBest (fun i j => decide (num i > num j)) k)
    · rw [if_pos (decide_eq_true h), if_pos h]
    · rw [if_neg (by simp [h]), if_neg h]
theorem max_of_list (m : Int) (ns : List Int) : (m :: ns).getD (argBest (fun i j => decide ((m :: ns).getD i 0 > (m :: ns).getD j 0)) ns.length) 0 = maxI m ns := by
  rw [maxI_at (fun i => (m :: ns).getD i 0) ns.length]
  show maxI m _ = _
  congr 1
  refine List.ext_getElem? fun i => ?_
  rw [List.getElem?_map]
  by_cases h : i < ns.length
  · rw [List.getElem?_range h, List.getElem?_eq_getElem h]
    show some ((m :: ns).getD (i + 1) 0) = _
    rw [List.getD_cons_succ, List.getD_eq_getElem?_getD, List.getElem?_eq_getElem h]; rfl
  · rw [List.getElem?_eq_none (by rw [List.length_range]; omega), List.getElem?_eq_none (by omega)]; rfl
noncomputable def rMaxL (K : PySem.W.Frag) : List V → Hp → VK → Prop := fun xs H Q => ∃ (a : Addr) (m : Int) (ns : List Int), xs = [.ref a] ∧ SqL K H a ((m :: ns).map V.int) ∧ Q (.int (maxI m ns)) H
theorem call_maxL (hc : X.calm = true) : CallR X (.builtin "max") (rMaxL X.K) := by
  intro pins s σ H xs us Q I r h
  obtain ⟨a, m, ns, rfl, hq, q⟩ := h
  obtain ⟨u, rfl, ru⟩ := vals1 r
  cases ru
  have hh := I.ok.hd hc
  obtain ⟨its, rv, p, hz⟩ := I.list hq
  have hlt : a < s.heap.objs.size := by obtain ⟨_, e, _⟩ := p.isList; exact Heap.lt_size e
  have hl := rv.length
  rw [List.length_map, List.length_cons] at hl
  refine call_max_walk (wpAny_pyIter_list p.isList ?_)
  refine ⟨s.heap.objs.size, _, _, _, _, _, fun i j => decide ((m :: ns).getD i 0 > (m :: ns).getD j 0), rfl, Walks.list (A := X.A.in1) hh s.heap.objs.size a (Nat.ne_of_lt hlt) its.toArray, ⟨⟨_, Heap.get?_push_size _ rfl, rfl, rfl⟩, p.isList.push _⟩, fun b hb => ?_, by rw [List.size_toArray]; omega, CmpOf.ints_gt _ fun i v hv => vals_at rv (by simpa using hv), fun v h' tk hv hk => ?_⟩
  · show b < (s.heap.push _).objs.size
    rw [Heap.size_push]
    rcases List.mem_cons.mp hb with rfl | hb
    · exact Nat.lt_succ_self _
    · rcases List.mem_cons.mp hb with rfl | hb
      · exact Nat.lt_succ_of_lt hlt
      · cases hb
  · obtain ⟨t, rfl⟩ := vals_at rv (i := argBest (fun i j => decide ((m :: ns).getD i 0 > (m :: ns).getD j 0)) (its.toArray.size - 1)) (by simpa using hv)
    refine ⟨.int (maxI m ns), H, I.kept (t' := tk) fun b o e => hk b o (fun z => ?_) (Heap.get?_push_of_some _ e), ⟨t, ?_⟩, q⟩
    · have z' : b = s.heap.objs.size := by simpa using z
      have l := Heap.lt_size e
      rw [z'] at l
      exact Nat.lt_irrefl _ l
    · rw [List.size_toArray, ← hl, Nat.add_sub_cancel, max_of_list]
theorem kb_maxL : CallK X (rMaxL X.K) bMaxL := ⟨fun a c z => (by
    unfold bMaxL at z
    split at z
    · split at z <;> cases z
    · cases z), fun Hi H vs ds d Q s r z q => by
    unfold bMaxL at z
    split at z
    · split at z
      · rename_i m ns hns
        cases z
        obtain ⟨v, rfl, h⟩ := r.one
        obtain ⟨a, xs, rfl, h1, h2⟩ := h.lstI
        have e := isDs_intsD h2 hns
        subst e
        exact ⟨a, m, ns, rfl, sqL_mono s h1, q _ Hi H (Ext.refl s) (.int _)⟩
      · cases z
    · cases z⟩
noncomputable def maxD (d : Int) : List Int → Int
  | [] => d
  | m :: r => maxI m r
noncomputable def rMaxD (K : PySem.W.Frag) : R2 := fun x y H Q => ∃ (ad : Addr) (d : Int) (ns : List Int), x = .ref ad ∧ y = .int d ∧ SqL K H ad (ns.map V.int) ∧ Q (.int (maxD d ns)) H
theorem args_maxD (x v : Value) : argsOk "max" ⟨[x], [(Str.ofString "default", v)]⟩ := by unfold argsOk; kernel_rfl
theorem maxD_call (hc : X.calm = true) {pins : List (Addr × Obj)} {s : Shared} {σ : St} {H : Hp} {ad : Addr} {d : Int} {t : Tok} {ns : List Int} {Q : VK} (I : Inv X pins σ H s) (hq : SqL X.K H ad (ns.map V.int)) (q : Q (.int (maxD d ns)) H) :
    wpAny (model X.prog X.w) X.A (call (.builtin "max") [.ref ad] [(Str.ofString "default", .int d t)]) (EP X pins σ Q) X.xe s := by
  have hh := I.ok.hd hc
  obtain ⟨its, rv, p, hz⟩ := I.list hq
  have hlt : ad < s.heap.objs.size := by obtain ⟨_, e, _⟩ := p.isList; exact Heap.lt_size e
  have hl := rv.length
  rw [List.length_map] at hl
  refine kmk_tree F.kind_max F.plain_max F.entry_max (args_maxD _ _) ?_
  refine wpAny_bind (m := Builtin.Builtins.bindParams "max" ["key", "default"] 0 ⟨[], [(Str.ofString "default", .int d t)]⟩) (wpAny_of_eq (a := [none, some (.int d t)]) (by first | rfl | kernel_rfl) ?_)
  refine wpAny_bind (wpAny_pure ?_)
  refine wpAny_bind (wpAny_pyIter_list p.isList ?_)
  refine wpAny_bind (wpAny_newObj_type ?_)
  rw [mxName]
  refine wpAny_pure ⟨plainId_quiet F.plain_max_loop _, ?_⟩
  have W := Walks.list (prog := X.prog) (w := X.w) (A := X.A.in1) hh s.heap.objs.size ad (Nat.ne_of_lt hlt) its.toArray
  have hSf : (s.heap.push { cls := .type "list_iterator", data := .fields #[.ref ad, .int 0 0] }).objs.size ∉ [s.heap.objs.size, ad] := by
    rw [Heap.size_push]
    intro z
    rcases List.mem_cons.mp z with z | z
    · exact Nat.succ_ne_self _ z
    · exact Nat.lt_irrefl _ (Nat.lt_of_le_of_lt (Nat.le_of_eq (List.mem_singleton.mp z)) (Nat.lt_succ_of_lt hlt))
  have keep : ∀ {h' : Heap} {b : Addr} {o : Obj}, (∀ b o, b ∉ [s.heap.objs.size] → b ≠ (s.heap.push { cls := .type "list_iterator", data := .fields #[.ref ad, .int 0 0] }).objs.size → ((s.heap.push { cls := .type "list_iterator", data := .fields #[.ref ad, .int 0 0] }).push { cls := .type "list", data := .seq #[] }).get? b = some o → h'.get? b = some o) → s.heap.get? b = some o → h'.get? b = some o := fun {h' b o} hk e => by
    have l := Heap.lt_size e
    refine hk b o (fun z => ?_) (fun z => ?_) (Heap.get?_push_of_some _ (Heap.get?_push_of_some _ e))
    · rw [List.mem_singleton.mp z] at l; exact Nat.lt_irrefl _ l
    · rw [z, Heap.size_push] at l; exact Nat.lt_irrefl _ (Nat.lt_of_succ_lt l)
  have hst : ((s.heap.push { cls := .type "list_iterator", data := .fields #[.ref ad, .int 0 0] }).push { cls := .type "list", data := .seq #[] }).IsListIter s.heap.objs.size ad 0 ∧ ((s.heap.push { cls := .type "list_iterator", data := .fields #[.ref ad, .int 0 0] }).push { cls := .type "list", data := .seq #[] }).IsList ad its.toArray :=
    ⟨⟨_, Heap.get?_push_of_some _ (Heap.get?_push_size _ rfl), rfl, rfl⟩, (p.isList.push _).push _⟩
  cases ns with
  | nil =>
    have e0 : its = [] := List.eq_nil_of_length_eq_zero (by rw [← hl]; rfl)
    subst e0
    exact mx_none W _ hSf hst (Heap.get?_push_size _ rfl) fun v h' tk hv hk => ⟨.int d, H, I.kept (t' := tk) fun b o e => keep hk e, ⟨t, hv⟩, q⟩
  | cons m r =>
    refine mx_first W (fun i j => decide ((m :: r).getD i 0 > (m :: r).getD j 0)) (CmpOf.ints_gt _ fun i v hv => vals_at rv (by simpa using hv)) _ hSf (by rw [List.size_toArray, ← hl]; exact Nat.succ_pos _) hst (Heap.get?_push_size _ rfl) fun v h' tk hv hk => ?_
    obtain ⟨t', rfl⟩ := vals_at rv (i := argBest (fun i j => decide ((m :: r).getD i 0 > (m :: r).getD j 0)) (its.toArray.size - 1)) (by simpa using hv)
    refine ⟨.int (maxI m r), H, I.kept (t' := tk) fun b o e => keep hk e, ⟨t', ?_⟩, q⟩
    rw [List.size_toArray, ← hl, List.length_cons, Nat.add_sub_cancel, max_of_list]
theorem pe_maxD {ta tb : TE} (hc : X.calm = true) (hg : Gl X "max") (hm : X.mg "max" = none) (ha : PE X a ta) (hb : PE X c tb) (hs : starEach [a] X.env = (false, eval a X.env) :: starEach [] X.env := by rfl) :
    PE X (.Call (.Name "max" p) [a] [⟨some "default", c, kp⟩] pos) (tOp (rMaxD X.K) ta tb) := by
  intro pins s σ H Q I h
  refine wpAny_Call_Name_kw (ld_blt I hg hm boot_max ?_ (by decide) (by decide))
  refine callWith_kw (thn ((pa_cons ha pa_nil hs) pos pins s σ H (fun vs H1 => match vs with | [x] => tb σ H1 fun y H2 => rMaxD X.K x y H2 Q | _ => False) I h) fun us s1 ⟨vs, H1, I1, r1, q1⟩ => ?_) (by rw [hs]; rfl) (by rw [hs]; rfl)
  match vs, r1, q1 with
  | [x], r1, q1 =>
    obtain ⟨u, rfl, ru⟩ := vals1 r1
    refine kws_cons (thn (hb pins s1 σ H1 _ I1 q1) fun v s2 ⟨y, H2, I2, r2, q2⟩ => kws_nil ?_)
    obtain ⟨ad, d, ns, rfl, rfl, hq, q⟩ := q2
    cases ru
    obtain ⟨t, rfl⟩ := r2
    exact maxD_call hc I2 hq q
theorem pd_maxD (hc : X.calm = true) (hg : Gl X "max") (hm : X.mg "max" = none) (ha : PEd X G a f) (hb : PEd X G c g) (hs : starEach [a] X.env = (false, eval a X.env) :: starEach [] X.env := by rfl) :
    PEd X G (.Call (.Name "max" p) [a] [⟨some "default", c, kp⟩] pos) (eOp (fun x y => bMaxD [x, y]) f g) := PE.wk (pe_maxD hc hg hm ha hb hs) (op2 ⟨fun a b c z => (by
    replace z : bMaxD [a, b] = _ := z
    unfold bMaxD at z
    split at z
    · split at z <;> cases z
    · cases z), fun Hi H x y a b d Q s r1 r2 z q => by
    replace z : bMaxD [a, b] = _ := z
    unfold bMaxD at z
    split at z
    · rename_i ds d' he
      cases he
      obtain ⟨ad, xs, rfl, h1, h2⟩ := r1.lstI
      split at z
      · rename_i m ns hns
        cases z
        have e := isDs_intsD h2 hns
        subst e
        exact ⟨ad, _, _, rfl, r2.intI, sqL_mono s h1, q _ Hi H (Ext.refl s) (.int _)⟩
      · rename_i hns
        cases z
        have e := isDs_intsD h2 hns
        subst e
        exact ⟨ad, _, [], rfl, r2.intI, sqL_mono s h1, q _ Hi H (Ext.refl s) (.int _)⟩
      · cases z
    · cases z⟩)
end
end L3

namespace L3
open PySem PySem.Spec PyProof.Rows L2
unseal PEd PEf PTd PWd PAd PSd PSsd POd PGd PGsd PId PSx PSsx PTs PCd PCf
section
variable {X : Cx} {G : Gx} {e : Expr} {pos : Pos} {f : Ev}
end
end L3

namespace L2
open PySem PySem.Spec PyProof.Rows
/-! ### lists of pairs as tables -/
section
variable {κ : Type} [DecidableEq κ]
theorem KV.length {kvs : List (κ × V)} {vs : List (κ × Value)} (r : KV kvs vs) : kvs.length = vs.length := Paired.length r
end


/-- raw entries of a dict with tuple keys -/
noncomputable abbrev KT (H : Hp) : List (List Key × V) → List (List Key × Addr × Value) → Prop := Paired fun p q => p.1 = q.1 ∧ H q.2.1 = some (.tup (p.1.map kV)) ∧ RelV p.2 q.2.2
section
variable {P : Program} {w : World} {H : Hp} {h : Heap} {a : Addr}
end

section
variable {X : Cx} {pins : List (Addr × Obj)} {σ : St} {H : Hp} {s : Shared} {a : Addr} {y v : V} {u r : Value} {o : Option V} {A : Around} {E : Value → Shared → Prop}

end

section
variable {X : Cx} {pins : List (Addr × Obj)} {σ : St} {H : Hp} {s : Shared} {a : Addr} {kvs : List (Key × V)} {k : Key} {u : Value} {A : Around} {E : Value → Shared → Prop}
end


section
variable {X : Cx} {o i e value : Expr} {pos pos' tpos : Pos} {td ty tv : TE}
end


section
variable {X : Cx} {pos : Pos}
end

end L2

namespace L3
open PySem PySem.Spec PyProof.Rows L2
unseal PEd PEf PTd PWd PAd PSd PSsd POd PGd PGsd PId PSx PSsx PTs PCd PCf
section
variable {X : Cx} {G : Gx} {a b c e : Expr} {pos p2 p : Pos} {f g h : Ev} {fs : Fv} {x : Str}
/-! ### a table of texts in a local name -/
theorem Rel.setS {K : PySem.W.Frag} {mg : Str → Option Value} {B Bi Hi H : Hp} {σ : St} {ρ : Rho} {i : Nat} {v : V} {s : Sl} (R : Rel K mg B Bi Hi H σ ρ) (h : SlotOk K mg B Hi H (some (some v)) s) (hs : ∀ ds, s ≠ .own ds) :
    Rel K mg B Bi Hi H (σ.set i (some v)) (ρ.set i s) where
  len := by rw [List.length_set, List.length_set]; exact R.len
  ext := R.ext
  slot := fun j t q => by
    by_cases e : i = j
    · subst e
      by_cases hl : i < ρ.length
      · rw [List.getElem?_set_self hl] at q; cases q
        rw [List.getElem?_set_self (by rw [R.len]; exact hl)]; exact h
      · rw [List.getElem?_eq_none (by rw [List.length_set]; omega)] at q; cases q
    · rw [List.getElem?_set_ne e] at q ⊢
      exact R.slot j t q
  dist := fun j k a ds es q1 q2 q3 q4 => by
    have h1 : ∀ {j : Nat} {ds : List D}, (ρ.set i s)[j]? = some (.own ds) → i ≠ j := fun {j ds} q e => by
      subst e
      by_cases hl : i < ρ.length
      · rw [List.getElem?_set_self hl] at q; exact hs ds (Option.some.inj q)
      · rw [List.getElem?_eq_none (by rw [List.length_set]; omega)] at q; cases q
    have n1 := h1 q1
    have n2 := h1 q2
    rw [List.getElem?_set_ne n1] at q1 q3
    rw [List.getElem?_set_ne n2] at q2 q4
    exact R.dist j k a ds es q1 q2 q3 q4
end
end L3

namespace L3
open PySem PySem.Spec PyProof.Rows L2
/-! ### an iterator over a list (true) or a tuple (false) -/
noncomputable def itN (k : Bool) : String := if k then "list_iterator" else "tuple_iterator"
noncomputable def ItAt (k : Bool) (h : Heap) (it l : Addr) (i : Nat) : Prop := if k then h.IsListIter it l i else h.IsTupleIter it l i
theorem ItAt.get {k : Bool} {h : Heap} {it l : Addr} {i : Nat} (x : ItAt k h it l i) : ∃ o, h.get? it = some o ∧ o.cls = .type (itN k) ∧ o.data = .fields #[.ref l, .int i 0] := by
  cases k <;> (obtain ⟨o, a, b, c⟩ := x; exact ⟨o, a, b, c⟩)
section
variable {prog : Program} {w : World} {A : Around} {E : Value → Shared → Prop} {s : Shared}
end
section
variable {prog : Program} {w : World} {A : Around} {E : Value → Shared → Prop} {s : Shared}
end
end L3

namespace L3
open PySem PySem.Spec PyProof.Rows L2
section
variable {X : Cx} {pins : List (Addr × Obj)} {σ : St} {H : Hp} {s : Shared} {h' : Heap} {fp : List Addr}
end
section
variable {X : Cx} {pins : List (Addr × Obj)} {σ : St} {H : Hp} {s : Shared} {k : Bool} {a : Addr} {xs ys : List V}
end
section
unseal PEd PEf PTd PWd PAd PSd PSsd POd PGd PGsd PId PSx PSsx PTs PCd PCf
variable {X : Cx} {G : Gx} {fs : Fv} {f : Ev}
end
end L3

namespace L3
open PySem PySem.Spec PyProof.Rows L2
unseal PEd PEf PTd PWd PAd PSd PSsd POd PGd PGsd PId PSx PSsx PTs PCd PCf
section
variable {X : Cx} {pins : List (Addr × Obj)} {σ : St} {H : Hp} {s₂ : Shared} {xs : List Str} {scope : Scope} {fp : List Addr} {D C : Addr} {h₁ : Heap}
end
section
variable {X : Cx} {G : Gx} {elt iter : Expr} {xa xb : Str} {pa pb tp pos : Pos} {x1 : Nat} {scope : Scope} {it : Fv} {f : Ev} {k : Nat}
end
end L3

namespace L3
open PySem PySem.Spec PyProof.Rows L2
/-! ### a part of a list or a tuple, the whole tuple among them -/
section
variable {prog : Program} {w : World} {A : Around} {E : Value → Shared → Prop} {s : Shared}
end
section
variable {X : Cx} {G : Gx} {fs : Fv} {f : Ev}
unseal PEd PEf PTd PWd PAd PSd PSsd POd PGd PGsd PId PSx PSsx PTs PCd PCf
end
end L3

namespace L3
open PySem PySem.Spec PyProof.Rows L2
unseal PEd PEf PTd PWd PAd PSd PSsd POd PGd PGsd PId PSx PSsx PTs PCd PCf
section
variable {X : Cx} {G : Gx} {f : Ev} {pos : Pos}
/-! ### xs.count(b), xs.index(b) of bools -/
theorem vals_bools : ∀ {bs : List Bool} {its : List Value}, Vals (bs.map V.bl) its → its = bs.map Value.bool
  | [], _, h => by cases h; rfl
  | b :: bs, _, h => by
    rw [List.map_cons] at h
    cases h with
    | cons r t => cases r; rw [vals_bools t]; rfl
noncomputable def eB1 (b : Bool) : Value → Bool
  | .bool c => c == b
  | _ => false
theorem eB1_at {A : Around} {s : Shared} {b : Bool} {bs : List Bool} : ∀ y, y ∈ (bs.map Value.bool).toArray → SeqAt.EqAt A s y (.bool b) (eB1 b y) := fun y h => by
  rw [List.mem_toArray, List.mem_map] at h
  obtain ⟨c, _, rfl⟩ := h
  exact SeqAt.EqAt.bool_bool c b
theorem countP_bools (b : Bool) : ∀ bs : List Bool, (bs.map Value.bool).countP (eB1 b) = bs.countP (· == b)
  | [] => rfl
  | c :: bs => by rw [List.map_cons, List.countP_cons, List.countP_cons, countP_bools b bs]; rfl
noncomputable def rCnt (K : PySem.W.Frag) : V → List V → Hp → VK → Prop := fun x vs H Q => ∃ (a : Addr) (bs : List Bool) (b : Bool), x = .ref a ∧ vs = [.bl b] ∧ SqL K H a (bs.map V.bl) ∧ Q (.int (bs.countP (· == b) : Nat)) H
theorem mt_count : MtR X "list.count" (rCnt X.K) := by
  intro pins s σ H x vs v us Q I rx rv h
  obtain ⟨a, bs, b, rfl, rfl, hq, q⟩ := h
  cases rx
  obtain ⟨u, rfl, ru⟩ := rv.one
  cases ru
  obtain ⟨its, r, pl, _⟩ := I.list hq
  have e1 := vals_bools r
  subst e1
  obtain ⟨o, n, eo, co, cd, dat⟩ := id pl
  obtain ⟨cls, dd, data, sl⟩ := o
  simp only at co dat
  subst co dat
  refine call_meets F.slot_list_count pl.isList.typeIs F.entry_list_count (F.args_list_count_2 _ _) (SeqAt.list_countAt a _ n dd sl (.bool b) (eB1 b)) ⟨eo, eB1_at, ?_⟩
  refine ⟨.int _, H, I.tok _, ⟨_, rfl⟩, ?_⟩
  show Q (.int ((bs.map Value.bool).countP (eB1 b) : Nat)) H
  rw [countP_bools]
  exact q
noncomputable def rIdx (K : PySem.W.Frag) : V → List V → Hp → VK → Prop := fun x vs H Q => ∃ (a : Addr) (bs : List Bool) (b : Bool) (j : Nat), x = .ref a ∧ vs = [.bl b] ∧ SqL K H a (bs.map V.bl) ∧ bs.findIdx? (· == b) = some j ∧ Q (.int (j : Nat)) H
theorem mt_index : MtR X "list.index" (rIdx X.K) := by
  intro pins s σ H x vs v us Q I rx rv h
  obtain ⟨a, bs, b, j, rfl, rfl, hq, hj, q⟩ := h
  cases rx
  obtain ⟨u, rfl, ru⟩ := rv.one
  cases ru
  obtain ⟨its, r, pl, hz⟩ := I.list hq
  have e1 := vals_bools r
  subst e1
  obtain ⟨o, n, eo, co, cd, dat⟩ := id pl
  obtain ⟨cls, dd, data, sl⟩ := o
  simp only at co dat
  subst co dat
  obtain ⟨h1, h2, h3⟩ := List.findIdx?_eq_some_iff_getElem.mp hj
  have hl : (bs.map Value.bool).toArray.size = bs.length := by rw [List.size_toArray, List.length_map]
  have hn := line63
  rw [List.length_map] at hz
  refine call_meets F.slot_list_index pl.isList.typeIs F.entry_list_index (F.args_list_index_2 _ _) (SeqAt.list_indexAt a _ n dd sl (.bool b) (eB1 b) j (by rw [hl]; exact h1) (by omega) ?_ fun m hm hmj => ?_) ⟨eo, eB1_at, ?_⟩
  · rw [List.getElem_toArray, List.getElem_map]; exact h2
  · rw [List.getElem_toArray, List.getElem_map]
    have := h3 m hmj
    show (_ == b) = false
    exact Bool.eq_false_iff.mpr this
  · exact ⟨.int _, H, I.tok _, ⟨_, rfl⟩, q⟩
section
variable {o : Expr} {k : Nat} {b : Bool} {p1 p2 p3 : Pos}
theorem pd_count (ho : PEd X G o f)
    (hbase : attributeBase o "count" X.env (eval o X.env) = eval o X.env := by rfl)
    (hfew : ((backTo p3 (starEach [.Constant (.bool b) k p1] X.env)).all (fun x => !x.1) && (backToKw p3 (keywordEach [] X.env)).all (fun x => x.1.isSome)
      && decide ([Expr.Constant (.bool b) k p1].length + ([] : List Keyword).length + (if ([] : List Keyword).isEmpty then 0 else 1) < 30)) = true := by rfl)
    (hline : (p2.endLine == p3.line) = true := by rfl) (hs : starEach [.Constant (.bool b) k p1] X.env = (false, eval (.Constant (.bool b) k p1) X.env) :: starEach [] X.env := by rfl) :
    PEd X G (.Call (.Attribute o "count" p2) [.Constant (.bool b) k p1] [] p3) (eCnt b f) :=
  PE.wk (pe_bm F.plainAttrs_list F.slot_list_count F.type_list_count mt_count ho (pa_cons pe_bl pa_nil hs) hbase hfew hline hs rfl) fun σ H Q q => by
    obtain ⟨ρ, Hi, R, ou⟩ := q
    refine out2 R ou fun v d Hi1 H1 e1 R1 r1 o1 => ?_
    cases d with
    | lst ds =>
      obtain ⟨a, xs, rfl, h1, h2⟩ := r1.lstI
      refine ⟨.inl ⟨rfl, xs, sqL_mono R1.s h1⟩, ?_⟩
      cases z : boolsD ds with
      | none => rw [show cntD b (.lst ds) = .no by show (match boolsD ds with | some bs => _ | none => Res.no) = _; rw [z]] at o1; exact o1.elim
      | some bs =>
        rw [show cntD b (.lst ds) = .ok (.int (bs.countP (· == b) : Nat)) by show (match boolsD ds with | some bs => _ | none => Res.no) = _; rw [z]] at o1
        have ex := isDs_boolsD h2 z
        subst ex
        exact ⟨a, bs, b, rfl, rfl, sqL_mono R1.s h1, o1.here R1.s _ (.int _)⟩
    | _ => exact o1.elim
theorem pd_index (ho : PEd X G o f)
    (hbase : attributeBase o "index" X.env (eval o X.env) = eval o X.env := by rfl)
    (hfew : ((backTo p3 (starEach [.Constant (.bool b) k p1] X.env)).all (fun x => !x.1) && (backToKw p3 (keywordEach [] X.env)).all (fun x => x.1.isSome)
      && decide ([Expr.Constant (.bool b) k p1].length + ([] : List Keyword).length + (if ([] : List Keyword).isEmpty then 0 else 1) < 30)) = true := by rfl)
    (hline : (p2.endLine == p3.line) = true := by rfl) (hs : starEach [.Constant (.bool b) k p1] X.env = (false, eval (.Constant (.bool b) k p1) X.env) :: starEach [] X.env := by rfl) :
    PEd X G (.Call (.Attribute o "index" p2) [.Constant (.bool b) k p1] [] p3) (eIdx b f) :=
  PE.wk (pe_bm F.plainAttrs_list F.slot_list_index F.type_list_index mt_index ho (pa_cons pe_bl pa_nil hs) hbase hfew hline hs rfl) fun σ H Q q => by
    obtain ⟨ρ, Hi, R, ou⟩ := q
    refine out2 R ou fun v d Hi1 H1 e1 R1 r1 o1 => ?_
    cases d with
    | lst ds =>
      obtain ⟨a, xs, rfl, h1, h2⟩ := r1.lstI
      refine ⟨.inl ⟨rfl, xs, sqL_mono R1.s h1⟩, ?_⟩
      cases z : boolsD ds with
      | none => rw [show idxD b (.lst ds) = .no by show (match boolsD ds with | some bs => _ | none => Res.no) = _; rw [z]] at o1; exact o1.elim
      | some bs =>
        have ex := isDs_boolsD h2 z
        subst ex
        cases z2 : bs.findIdx? (· == b) with
        | none => rw [show idxD b (.lst ds) = .no by show (match boolsD ds with | some bs => _ | none => Res.no) = _; rw [z]; show (match bs.findIdx? (· == b) with | some j => Res.ok (D.int (j : Nat)) | none => .no) = _; rw [z2]] at o1; exact o1.elim
        | some j =>
          rw [show idxD b (.lst ds) = .ok (.int (j : Nat)) by show (match boolsD ds with | some bs => _ | none => Res.no) = _; rw [z]; show (match bs.findIdx? (· == b) with | some j => Res.ok (D.int (j : Nat)) | none => .no) = _; rw [z2]] at o1
          exact ⟨a, bs, b, j, rfl, rfl, sqL_mono R1.s h1, z2, o1.here R1.s _ (.int _)⟩
    | _ => exact o1.elim
end
/-! ### two new lists in a list, lent to a call, looked at, and written behind it -/
theorem noErr_bind {α β : Type} {r : Res α} {k : α → Res β} (h : (noErr r).bind k ≠ .no) : ∃ a, r = .ok a ∧ (noErr r).bind k = k a := by
  cases r with
  | ok a => exact ⟨a, rfl, rfl⟩
  | err c => exact absurd rfl h
  | no => exact absurd rfl h
theorem ite_no {β : Type} {c : Prop} [Decidable c] {x : Res β} (h : (if c then x else .no) ≠ .no) : c ∧ (if c then x else .no) = x := by
  by_cases z : c
  · exact ⟨z, if_pos z⟩
  · rw [if_neg z] at h; exact absurd rfl h
theorem sLent_inv {i fo : Nat} {a b : Fv} {call : Ev} {cmp : Tv} {rest : Sv} {ρ : Rho} (h : sLent i fo a b call cmp rest ρ ≠ .no) :
    ∃ ds es d, i < ρ.length ∧ fo < ρ.length ∧ i ≠ fo ∧ a ρ = .ok ds ∧ b ρ = .ok es ∧ ds.length ≤ 1000 ∧ es.length ≤ 1000 ∧ call (ρ.set i (.val (.lst [.lst ds, .lst es]))) = .ok d ∧ noL d = true ∧
      cmp ((ρ.set i (.val (.lst [.lst ds, .lst es]))).set fo (.val d)) = .ok false ∧ sLent i fo a b call cmp rest ρ = rest ((ρ.set i .un).set fo (.val d)) := by
  unfold sLent at h ⊢
  obtain ⟨c1, e1⟩ := ite_no h
  rw [e1] at h ⊢
  obtain ⟨ds, qa, e2⟩ := noErr_bind h
  rw [e2] at h ⊢
  obtain ⟨es, qb, e3⟩ := noErr_bind h
  rw [e3] at h ⊢
  obtain ⟨c2, e4⟩ := ite_no h
  rw [e4] at h ⊢
  obtain ⟨d, qc, e5⟩ := noErr_bind h
  rw [e5] at h ⊢
  obtain ⟨c3, e6⟩ := ite_no h
  rw [e6] at h ⊢
  obtain ⟨c, qd, e7⟩ := noErr_bind h
  rw [e7] at h ⊢
  cases c with
  | true => exact absurd rfl h
  | false => exact ⟨ds, es, d, c1.1, c1.2.1, c1.2.2, qa, qb, c2.1, c2.2, qc, c3, qd, rfl⟩
section
variable {i fo : Nat} {x y : Str} {ea eb ec ct o0 o1 : Expr} {body rest : List Stmt} {a b : Fv} {cmp : Tv} {sr : Sv} {p1 p2 p3 p4 p5 p6 p7 p8 p9 p10 p11 p12 p13 p14 p15 p16 : Pos} {k5 k0 k1 : Nat}
theorem s_lent (hN : X.N.Nodup) (hi : X.N[i]? = some x) (hx : Loc X.env.scope x) (hj : X.N[fo]? = some y) (hy : Loc X.env.scope y) (ha : PEf X G ea a) (hb : PEf X G eb b) (hc : PEd X G ec f) (ht : PTd X G ct cmp)
    (ho0 : PE X o0 (tVar i)) (ho1 : PE X o1 (tVar i)) (hr : PSsd X G rest sr)
    (hf1 : X.fn x = true ∨ X.env.scope.names.lookup x = some .local := by first | exact .inl rfl | exact .inr rfl | assumption)
    (hf2 : X.fn y = true ∨ X.env.scope.names.lookup y = some .local := by first | exact .inl rfl | exact .inr rfl | assumption)
    (hs1 : starEach [ea, eb] X.env = (false, eval ea X.env) :: starEach [eb] X.env := by rfl) (hs2 : starEach [eb] X.env = (false, eval eb X.env) :: starEach [] X.env := by rfl)
    (hw1 : swapsWith (.List [ea, eb] p2) (some (.Name x p1)) p3.line X.env = pure false := by rfl) (hw2 : swapsWith ec (some (.Name y p4)) p5.line X.env = pure false := by rfl)
    (hx0 : PlainIx (.Constant (.int 0) k0 p7) := by exact fun _ _ => rfl) (hx1 : PlainIx (.Constant (.int 1) k1 p12) := by exact fun _ _ => rfl)
    (hbase : attributeBase (.Subscript o0 (.Constant (.int 0) k0 p7) p8) "append" X.env (eval (.Subscript o0 (.Constant (.int 0) k0 p7) p8) X.env) = eval (.Subscript o0 (.Constant (.int 0) k0 p7) p8) X.env := by rfl)
    (hfew : ((backTo p10 (starEach [.Constant (.int 5) k5 p11] X.env)).all (fun x => !x.1) && (backToKw p10 (keywordEach [] X.env)).all (fun x => x.1.isSome)
      && decide ([Expr.Constant (.int 5) k5 p11].length + ([] : List Keyword).length + (if ([] : List Keyword).isEmpty then 0 else 1) < 30)) = true := by rfl)
    (hline : (p9.endLine == p10.line) = true := by rfl) (hs5 : starEach [.Constant (.int 5) k5 p11] X.env = (false, eval (.Constant (.int 5) k5 p11) X.env) :: starEach [] X.env := by rfl)
    (hw4 : swapsWith (.Call (.Attribute (.Subscript o0 (.Constant (.int 0) k0 p7) p8) "append" p9) [.Constant (.int 5) k5 p11] [] p10) none pos.line X.env = pure false := by rfl)
    (hbase1 : attributeBase (.Subscript o1 (.Constant (.int 1) k1 p12) p13) "reverse" X.env (eval (.Subscript o1 (.Constant (.int 1) k1 p12) p13) X.env) = eval (.Subscript o1 (.Constant (.int 1) k1 p12) p13) X.env := by rfl)
    (hline1 : (p14.endLine == p15.line) = true := by rfl)
    (hw5 : swapsWith (.Call (.Attribute (.Subscript o1 (.Constant (.int 1) k1 p12) p13) "reverse" p14) [] [] p15) none p16.line X.env = pure false := by rfl) :
    PSsd X G (.Assign [.Name x p1] (.List [ea, eb] p2) p3 :: .Assign [.Name y p4] ec p5 :: .If ct body [] p6 :: .Expr (.Call (.Attribute (.Subscript o0 (.Constant (.int 0) k0 p7) p8) "append" p9) [.Constant (.int 5) k5 p11] [] p10) pos
      :: .Expr (.Call (.Attribute (.Subscript o1 (.Constant (.int 1) k1 p12) p13) "reverse" p14) [] [] p15) p16 :: rest) (sLent i fo a b f cmp sr) :=
  PSs.wk (pss_cons (ps_set hN hi hx (pe_lst (pa_cons ha (pa_cons hb pa_nil hs2) hs1)) hw1 hf1) (pss_cons (ps_set hN hj hy hc hw2 hf2) (pss_cons (ps_if ht pss_never pss_nil)
    (pss_cons (ps_expr (pe_bm F.plainAttrs_list F.slot_list_append F.type_list_append mt_append (pe_ix ix_list ho0 pe_int hx0) (pa_cons pe_int pa_nil hs5) hbase hfew hline hs5 rfl) hw4)
      (pss_cons (ps_expr (pe_bm0 F.plainAttrs_list F.slot_list_reverse F.type_list_reverse mt_reverse (pe_ix ix_list ho1 pe_int hx1) hbase1 hline1) hw5) hr))))) fun E σ H q => by
  obtain ⟨ρ, Hi, R, h⟩ := q
  obtain ⟨ds, es, d, l1, l2, l3, qa, qb, z1, z2, qc, nl, qt, eq⟩ := sLent_inv (i := i) (fo := fo) (a := a) (b := b) (call := f) (cmp := cmp) (rest := sr) (ρ := ρ) (fun z => by rw [z] at h; exact h)
  rw [eq] at h
  refine ⟨ρ, Hi, R, ?_⟩
  rw [qa]
  intro Hi1 H1 e1 a0 ⟨n1, n2, xs, n3, n4⟩
  refine ⟨ρ, Hi1, R.grow e1, ?_⟩
  rw [qb]
  intro Hi2 H2 e2 b0 ⟨m1, m2, ys, m3, m4⟩
  refine ⟨by show 2 ≤ 16777216; decide, fun p hp => ?_⟩
  obtain ⟨a1, a2⟩ := e2.out n3 n2
  have ea' : Ext Hi H Hi2 H2 := e1.trans e2
  have pa' : p ≠ a0 := fun z => by rw [z, a1] at hp; cases hp
  have pb' : p ≠ b0 := fun z => by rw [z, m3] at hp; cases hp
  have ba' : b0 ≠ a0 := fun z => by rw [z, n3] at m1; cases m1
  have eb' : Ext Hi H Hi2 (upd H2 p (.lst [.ref a0, .ref b0])) := ea'.trans (Ext.newF ea'.s hp)
  have pi : Hi2 p = none := ea'.s.none hp
  have g1 : upd H2 p (.lst [.ref a0, .ref b0]) a0 = some (.lst xs) := by rw [upd_ne pa'.symm]; exact a1
  have g2 : upd H2 p (.lst [.ref a0, .ref b0]) b0 = some (.lst ys) := by rw [upd_ne pb'.symm]; exact m3
  generalize hH3 : upd H2 p (.lst [.ref a0, .ref b0]) = H3 at eb' g1 g2 ⊢
  have g3 : H3 p = some (.lst [.ref a0, .ref b0]) := by rw [← hH3]; exact upd_same
  have k2 : upd Hi2 a0 (.lst xs) b0 = none := by rw [upd_ne ba']; exact m2
  have k3 : upd (upd Hi2 a0 (.lst xs)) b0 (.lst ys) p = none := by rw [upd_ne pb', upd_ne pa']; exact pi
  have eh := ((eb'.hold n1 g1 a2).hold (e1.h.none m1) g2 k2).hold (ea'.h.none hp) g3 k3
  have s1 : Same Hi2 (upd Hi2 a0 (.lst xs)) := same_new' a2 _
  have s2 : Same (upd Hi2 a0 (.lst xs)) (upd (upd Hi2 a0 (.lst xs)) b0 (.lst ys)) := same_new' k2 _
  have s3 : Same (upd (upd Hi2 a0 (.lst xs)) b0 (.lst ys)) (upd (upd (upd Hi2 a0 (.lst xs)) b0 (.lst ys)) p (.lst [.ref a0, .ref b0])) := same_new' k3 _
  have sF : Same Hi2 (upd (upd (upd Hi2 a0 (.lst xs)) b0 (.lst ys)) p (.lst [.ref a0, .ref b0])) := s1.trans (s2.trans s3)
  have fl : ∀ b, Hi2 b = none → (upd (upd (upd Hi2 a0 (.lst xs)) b0 (.lst ys)) p (.lst [.ref a0, .ref b0])) b ≠ none → ∃ zs, (upd (upd (upd Hi2 a0 (.lst xs)) b0 (.lst ys)) p (.lst [.ref a0, .ref b0])) b = some (.lst zs) := fun b w1 w2 => by
    by_cases y1 : b = p
    · subst y1; exact ⟨_, upd_same⟩
    · rw [upd_ne y1] at w2 ⊢
      by_cases y2 : b = b0
      · subst y2; exact ⟨_, upd_same⟩
      · rw [upd_ne y2] at w2 ⊢
        by_cases y3 : b = a0
        · subst y3; exact ⟨_, upd_same⟩
        · rw [upd_ne y3] at w2; exact absurd w1 w2
  have fa := s3 _ _ (s2 _ _ (upd_same (H := Hi2) (a := a0) (o := .lst xs)))
  have fb := s3 _ _ (upd_same (H := upd Hi2 a0 (.lst xs)) (a := b0) (o := .lst ys))
  have fp : (upd (upd (upd Hi2 a0 (.lst xs)) b0 (.lst ys)) p (.lst [.ref a0, .ref b0])) p = some (.lst [.ref a0, .ref b0]) := upd_same
  generalize hHf : upd (upd (upd Hi2 a0 (.lst xs)) b0 (.lst ys)) p (.lst [.ref a0, .ref b0]) = Hf at eh sF fl fa fb fp
  have RF := (R.grow eh).set (i := i) (v := .ref p) (d := .lst [.lst ds, .lst es]) (.lst (SqL.of fp) (.cons (.lst (SqL.of fa) (n4.mono (e2.i.trans sF))) (.cons (.lst (SqL.of fb) (m4.mono sF)) .nil)))
  refine ⟨_, Hf, RF, ?_⟩
  rw [qc]
  intro Hi4 H4 e4 v r4
  refine ⟨_, Hi4, (RF.grow e4).set r4, ?_⟩
  rw [qt]
  intro Hi5 H5 e5
  obtain ⟨Ht, et, kt, st, _⟩ := Ext.thaw sF fl eh.s (e4.trans e5)
  have ta : Ht a0 = none := by
    cases w : Ht a0 with
    | none => rfl
    | some u => have := et.n a0 a2 (by rw [w]; exact fun c => by cases c); rw [g1] at this; cases this
  have tb : Ht b0 = none := by
    cases w : Ht b0 with
    | none => rfl
    | some u => have := et.n b0 m2 (by rw [w]; exact fun c => by cases c); rw [g2] at this; cases this
  have x1 := et.h _ _ g1
  have x2 := et.h _ _ g2
  have x3 := et.h _ _ g3
  have eT := ((eb'.trans et).rewrite (o := .lst (xs ++ [.int 5])) n1 ta).rewrite (o := .lst ys.reverse) (e1.h.none m1) tb
  have RT := ((R.grow eT).setS (i := i) (v := .ref p) (s := .un) trivial (fun ds z => by cases z)).set (i := fo) (v := v) (d := d) (IsD.noL kt (r4.mono e5.i) nl)
  have sv : ((σ.set i (some (.ref p))).set fo (some v))[i]? = some (some (.ref p)) := by rw [List.getElem?_set_ne (Ne.symm l3), List.getElem?_set_self (by rw [R.len]; exact l1)]
  have y1 : upd H5 a0 (.lst (xs ++ [.int 5])) p = some (.lst [.ref a0, .ref b0]) := by rw [upd_ne pa']; exact x3
  have y2 : upd H5 a0 (.lst (xs ++ [.int 5])) b0 = some (.lst ys) := by rw [upd_ne ba']; exact x2
  rw [if_neg (by decide)]
  refine ⟨.ref p, sv, p, _, 0, .ref a0, rfl, rfl, SqL.of x3, rfl, .inl ⟨rfl, xs, SqL.of x1⟩, a0, xs, .int 5, rfl, rfl, x1, ?_, ?_⟩
  · rw [n4.length]; show ds.length < 16777216; exact Nat.lt_of_le_of_lt z1 (by decide)
  refine ⟨.ref p, sv, p, _, 1, .ref b0, rfl, rfl, SqL.of y1, rfl, .inl ⟨rfl, ys, SqL.of y2⟩, b0, ys, rfl, rfl, y2, ?_⟩
  exact ⟨_, Ht, RT, h.mono (eT.i)⟩
end
/-! ### a pile: a call that reads it, and then the pile cut, with one more on it -/
theorem noLs_append : ∀ {ds es : List D}, noLs ds = true → noLs es = true → noLs (ds ++ es) = true
  | [], _, _, h => h
  | d :: ds, es, h, g => by
    rw [L3.noLs, Bool.and_eq_true] at h
    show noLs (d :: (ds ++ es)) = true
    rw [L3.noLs, Bool.and_eq_true]
    exact ⟨h.1, noLs_append h.2 g⟩
theorem IsDs.three {K : PySem.W.Frag} {H : Hp} {xs : List V} {d1 d2 d3 : D} (h : IsDs K H xs [d1, d2, d3]) : ∃ v1 v2 v3, xs = [v1, v2, v3] ∧ IsD K H v1 d1 ∧ IsD K H v2 d2 ∧ IsD K H v3 d3 := by
  cases h with
  | cons u1 t => cases t with
    | cons u2 t => cases t with
      | cons u3 t => cases t; exact ⟨_, _, _, rfl, u1, u2, u3⟩
theorem noLs_one {d : D} (h : noL d = true) : noLs [d] = true := by rw [L3.noLs, Bool.and_eq_true]; exact ⟨h, rfl⟩
section
variable {i j1 j2 j3 : Nat} {x : Str} {tg ec c1 c2 c3 esl ev o : Expr} {b2 b3 : List Stmt} {t1 t2 t3 : Tv} {sl : Fv} {g : Ev} {p1 p2 p3 p4 p5 p6 p7 p8 p9 : Pos}
theorem s_pile (hg : PG X tg (L2.gTup X.K 3 (L2.gCons (L2.gName j1) (L2.gCons (L2.gName j2) (L2.gCons (L2.gName j3) L2.gNil))))) (hN : X.N.Nodup) (hi : X.N[i]? = some x) (hx : Loc X.env.scope x)
    (hc : PEd X G ec f) (h1 : PTd X G c1 t1) (h2 : PTd X G c2 t2) (h3 : PTd X G c3 t3) (hsl : PEf X G esl sl) (ho : PE X o (tVar i)) (hv : PEd X G ev g)
    (hf : X.fn x = true ∨ X.env.scope.names.lookup x = some .local := by first | exact .inl rfl | exact .inr rfl | assumption)
    (hs : swapsWithSole [tg] ec p1.line X.env = pure false := by rfl) (hw : swappedStores [tg] ec X.env = pure none := by rfl)
    (ha : (assignEach [tg] X.env).map (·.2) = [assign tg X.env] := by rfl) (hw1 : swapsWith esl (some (.Name x p3)) p4.line X.env = pure false := by rfl)
    (hbase : attributeBase o "append" X.env (eval o X.env) = eval o X.env := by rfl)
    (hfew : ((backTo p6 (starEach [ev] X.env)).all (fun x => !x.1) && (backToKw p6 (keywordEach [] X.env)).all (fun x => x.1.isSome)
      && decide ([ev].length + ([] : List Keyword).length + (if ([] : List Keyword).isEmpty then 0 else 1) < 30)) = true := by rfl)
    (hline : (p5.endLine == p6.line) = true := by rfl) (hse : starEach [ev] X.env = (false, eval ev X.env) :: starEach [] X.env := by rfl)
    (hsw : swapsWith (.Call (.Attribute o "append" p5) [ev] [] p6) none p7.line X.env = pure false := by rfl) :
    PSsd X G [.Assign [tg] ec p1, .If c1 [.If c2 b2 [] p2] [.If c3 b3 [.Assign [.Name x p3] esl p4, .Expr (.Call (.Attribute o "append" p5) [ev] [] p6) p7] p8] p9] (sPile i j1 j2 j3 f t1 t2 t3 sl g) :=
  PSs.wk (pss_cons (ps_asg hc hg hs hw ha) (pss_one (ps_if h1 (pss_one (ps_if h2 pss_never pss_nil)) (pss_one (ps_if h3 pss_never (pss_cons (ps_set hN hi hx hsl hw1 hf)
    (pss_one (ps_expr (pe_bm F.plainAttrs_list F.slot_list_append F.type_list_append mt_append ho (pa_cons hv pa_nil hse) hbase hfew hline hse rfl) hsw)))))))) fun E σ H q => by
  obtain ⟨ρ, Hi, R, h⟩ := q
  unfold sPile at h
  obtain ⟨d, qc, e1⟩ := noErr_bind (fun z => by rw [z] at h; exact h : _ ≠ Res.no)
  rw [e1] at h
  obtain ⟨Hf, sf, RF, fl⟩ := R.frz
  refine ⟨_, Hf, RF, ?_⟩
  rw [qc]
  intro Hi1 H1 x1 v r1
  match d, h, r1 with
  | .tup [d1, d2, d3], h, r1 =>
  obtain ⟨p, xs, rfl, q1, q2⟩ := r1.tupI
  obtain ⟨v1, v2, v3, rfl, u1, u2, u3⟩ := q2.three
  have R1 := (((RF.grow x1).set (i := j1) u1).set (i := j2) u2).set (i := j3) u3
  refine ⟨p, _, rfl, sqT_mono x1.s q1, rfl, v1, _, rfl, v2, _, rfl, v3, _, rfl, rfl, ?_⟩
  have R0 : RelX X G Hi H (((σ.set j1 (some v1)).set j2 (some v2)).set j3 (some v3)) (((ρ.set j1 .un).set j2 .un).set j3 .un) :=
    ((R.setS (i := j1) (v := v1) (s := .un) trivial (fun ds z => by cases z)).setS (i := j2) (v := v2) (s := .un) trivial (fun ds z => by cases z)).setS (i := j3) (v := v3) (s := .un) trivial (fun ds z => by cases z)
  generalize hσ1 : ((σ.set j1 (some v1)).set j2 (some v2)).set j3 (some v3) = σ1 at R0 R1 ⊢
  dsimp only at h
  obtain ⟨c, qt, e2⟩ := noErr_bind (fun z => by rw [z] at h; exact h : _ ≠ Res.no)
  rw [e2] at h
  try dsimp only at h
  refine ⟨_, Hi1, R1, ?_⟩
  rw [qt]
  intro Hi2 H2 x2
  cases c with
  | true =>
    obtain ⟨c', qu, e3⟩ := noErr_bind (fun z => by rw [if_pos rfl, z] at h; exact h : _ ≠ Res.no)
    rw [if_pos rfl, e3] at h
    refine ⟨_, Hi2, R1.grow x2, ?_⟩
    rw [qu]
    intro Hi3 H3 x3
    cases c' with
    | true => exact h.elim
    | false =>
      obtain ⟨Ht, et, kt, st, _⟩ := Ext.thaw sf fl RF.s ((x1.trans x2).trans x3)
      exact h _ Ht H3 et.i (R0.grow et)
  | false =>
    obtain ⟨c', qu, e3⟩ := noErr_bind (fun z => by rw [if_neg Bool.false_ne_true, z] at h; exact h : _ ≠ Res.no)
    rw [if_neg Bool.false_ne_true, e3] at h
    refine ⟨_, Hi2, R1.grow x2, ?_⟩
    rw [qu]
    intro Hi3 H3 x3
    cases c' with
    | true => exact h.elim
    | false =>
      try dsimp only at h
      rw [if_neg Bool.false_ne_true] at h
      obtain ⟨ds, qs, e4⟩ := noErr_bind (fun z => by rw [z] at h; exact h : _ ≠ Res.no)
      rw [e4] at h
      try dsimp only at h
      obtain ⟨⟨n1, n2, n3⟩, e5⟩ := ite_no (fun z => by rw [z] at h; exact h : _ ≠ Res.no)
      rw [e5] at h
      try dsimp only at h
      obtain ⟨e, qv, e6⟩ := noErr_bind (fun z => by rw [z] at h; exact h : _ ≠ Res.no)
      rw [e6] at h
      try dsimp only at h
      obtain ⟨n4, e7⟩ := ite_no (fun z => by rw [z] at h; exact h : _ ≠ Res.no)
      rw [e7] at h
      have R3 := (R1.grow x2).grow x3
      refine ⟨_, Hi3, R3, ?_⟩
      rw [qs]
      intro Hi4 H4 x4 a ⟨m1, m2, ys, m3, m4⟩
      have hl : i < σ1.length := by rw [R0.len]; simpa using n3
      refine ⟨.ref a, List.getElem?_set_self hl, .inl ⟨rfl, ys, SqL.of m3⟩, ?_⟩
      have R4 : RelX X G Hi4 H4 (σ1.set i (some (.ref a))) (_ : Rho) := (R3.grow x4).setS (i := i) (v := .ref a) (s := .un) trivial (fun ds z => by cases z)
      refine ⟨_, Hi4, R4, ?_⟩
      rw [qv]
      intro Hi5 H5 x5 w rw5
      obtain ⟨k1, k2⟩ := x5.out m3 m2
      refine ⟨a, ys, w, rfl, rfl, k1, by rw [m4.length]; exact Nat.lt_of_le_of_lt n2 (by decide), ?_⟩
      have xx := (((x1.trans x2).trans x3).trans x4).trans x5
      obtain ⟨Ht, et, kt, st, _⟩ := Ext.thaw sf fl RF.s xx
      have ta : Ht a = none := st.none k2
      have ha : H a = none := (((x1.trans x2).trans x3).h).none m1
      exact h _ Ht _ et.i (R0.setOwn (et.rewrite (o := .lst (ys ++ [w])) ha ta) ha upd_same ta (IsDs.noL kt ((m4.mono x5.i).append (.cons rw5 .nil)) (noLs_append n1 (noLs_one n4))))
end
end
end L3


namespace Lw
open L3 PySem
noncomputable def tbT : List Str := ["BadClaim", "BadWay", "BadWeights", "TooMany"]
noncomputable def ancT : List (Str × List Str) := [("BadClaim", ["BadClaim", "CatchError", "ValueError", "Exception", "BaseException", "object"]), ("BadWay", ["BadWay", "CatchError", "ValueError", "Exception", "BaseException", "object"]), ("BadWeights", ["BadWeights", "CatchError", "ValueError", "Exception", "BaseException", "object"]), ("TooMany", ["TooMany", "CatchError", "ValueError", "Exception", "BaseException", "object"])]
noncomputable def t_CONTRARY : List (Str × Str) := [("row", "back"), ("back", "row"), ("even", "lack"), ("lack", "even"), ("part", "part"), ("half", "half")]
noncomputable def d_WEIGHTED : D := (.tup [(.str "even"), (.str "lack")])
noncomputable def d_BOAT : D := (.str "boat")
noncomputable def d_MOST_BOATS : D := (.int 12)
noncomputable def d_DEEPEST : D := (.int 8)
noncomputable def m_refuse_way : Mir := fn 1 1 (sIf (tVal (eUn (oTabNot t_CONTRARY) (eVar 0))) (sRaise "BadWay" (aCons (eC (.str "no such way")) aNil)) sNext)
noncomputable abbrev b_refuse_weights_5 : Sv := (sIf (tOrB (tVal (eOp oLt (eVar 4) (eC (.int 1)))) (tVal (eOp oGt (eVar 4) (eOp oPow (eC (.int 10)) (eC (.int 6)))))) (sRaise "BadWeights" (aCons (eC (.str "a weight is not from 1 to 10 ** 6")) aNil)) sNext)
noncomputable abbrev b_refuse_weights_4 : Sv := (sFor (iSeq (eVar 1)) (gName 4) b_refuse_weights_5)
noncomputable abbrev b_refuse_weights_2 : Sv := (sSeq (sIf (tVal (eOp oNe (eB bLen (aCons (eVar 1) aNil)) (eVar 3))) (sRaise "BadWeights" (aCons (eC (.str "more or fewer weights than are due")) aNil)) sNext) b_refuse_weights_4)
noncomputable def m_refuse_weights : Mir := fn 3 5 (sSeq (sSet 3 (eIf (tVal (eOp oIn (eVar 0) (eC d_WEIGHTED))) (eVar 2) (eC (.int 0)))) b_refuse_weights_2)
noncomputable abbrev b_boat_3 : Sv := (sRet (eTup (aCons (eC d_BOAT) (aCons (eVar 0) aNil))))
noncomputable def m_boat : Mir := fn 1 1 (sSeq (sIf (tOrB (tVal (eOp oLt (eVar 0) (eC (.int 0)))) (tVal (eOp oGt (eVar 0) (eOp oPow (eC (.int 10)) (eC (.int 9)))))) (sRaise "BadClaim" (aCons (eC (.str "a boat's claim is not from 0 to 10 ** 9")) aNil)) sNext) b_boat_3)
noncomputable def m_is_boat : Mir := fn 1 1 (sRet (eOp oEq (eOp oIx (eVar 0) (eC (.int 0))) (eC d_BOAT)))
noncomputable abbrev b_law_weights_13 : Sv := (sRet (eVar 4))
noncomputable abbrev b_law_weights_11 : Sv := (sSeq (sIf (tVal (eOp oEq (eVar 3) (eC (.int 4)))) (sRet (eF (fLst aNil))) sNext) b_law_weights_13)
noncomputable abbrev b_law_weights_9 : Sv := (sSeq (sIf (tAndB (tVal (eOp oEq (eVar 3) (eC (.int 3)))) (tVal (eOp oGt (eVar 2) (eC (.int 0))))) (sRet (eF (fCat (eF (fSl (eVar 4) oN (oS (eOp oSub (eVar 2) (eC (.int 1)))))) (eF (fLst (aCons (eOp oIx (eF (fLst (aCons (eC (.int 0)) (aCons (eOp oPow (eC (.int 10)) (eC (.int 6))) (aCons (eOp oAdd (eOp oPow (eC (.int 10)) (eC (.int 6))) (eC (.int 1))) (aCons (eUn oNeg (eC (.int 1))) aNil)))))) (eOp oMod (eOp oDiv (eVar 1) (eC (.int 63))) (eC (.int 4)))) aNil)))))) sNext) b_law_weights_11)
noncomputable abbrev b_law_weights_7 : Sv := (sSeq (sIf (tVal (eOp oEq (eVar 3) (eC (.int 2)))) (sRet (eF (fSl (eVar 4) (oS (eC (.int 1))) oN))) sNext) b_law_weights_9)
noncomputable abbrev b_law_weights_5 : Sv := (sSeq (sIf (tVal (eOp oEq (eVar 3) (eC (.int 1)))) (sRet (eF (fCat (eVar 4) (eF (fLst (aCons (eC (.int 1)) aNil)))))) sNext) b_law_weights_7)
noncomputable abbrev b_law_weights_3 : Sv := (sSeq (sIf (tVal (eOp oNotIn (eVar 0) (eTup (aCons (eC (.str "even")) (aCons (eC (.str "lack")) aNil))))) (sRet (eOp oIx (eF (fLst (aCons (eF (fLst aNil)) (aCons (eF (fLst aNil)) (aCons (eF (fLst aNil)) (aCons (eVar 4) aNil)))))) (eOp oMod (eVar 3) (eC (.int 4))))) sNext) b_law_weights_5)
noncomputable abbrev b_law_weights_2 : Sv := (sSeq (sSet 4 (eF (fComp (iRng1 (aCons (eVar 2) aNil)) tTrue (eOp oAdd (eC (.int 1)) (eOp oMod (eOp oDiv (eVar 1) (eOp oAdd (eC (.int 3)) (eVar 5))) (eOp oIx (eF (fLst (aCons (eC (.int 4)) (aCons (eOp oPow (eC (.int 10)) (eC (.int 6))) aNil)))) (eOp oMod (eVar 1) (eC (.int 2))))))))) b_law_weights_3)
noncomputable def m_law_weights : Mir := fn 3 5 (sSeq (sSet 3 (eOp oMod (eOp oDiv (eVar 1) (eC (.int 7))) (eC (.int 9)))) b_law_weights_2)
noncomputable abbrev b_law_due_12 : Sv := (sRet (eTup (aCons (eVar 0) (aCons (eB bTup (aCons (eVar 1) aNil)) (aCons (eB bTup (aCons (eF (fComp (iSeq (eVar 2)) tTrue (eOp oIx (eVar 4) (eC (.int 0))))) aNil)) aNil)))))
noncomputable abbrev b_law_due_10 : Sv := (sSeq (sIf (tVal (eOp oGt (eOp oAdd (eC (.int 1)) (eB bMaxL (aCons (eF (fComp (iSeq (eVar 2)) tTrue (eOp oIx (eVar 4) (eC (.int 2))))) aNil))) (eC (.int 8)))) (sRet (eC (.str "many"))) sNext) b_law_due_12)
noncomputable abbrev b_law_due_8 : Sv := (sSeq (sIf (tOrB (tVal (eOp oEq (eB bLen (aCons (eVar 2) aNil)) (eC (.int 0)))) (tOrB (tVal (eOp oGt (eB bLen (aCons (eVar 2) aNil)) (eC (.int 12)))) (tVal (eOp oGt (eB bSum (aCons (eF (fComp (iSeq (eVar 2)) tTrue (eOp oIx (eVar 4) (eC (.int 1))))) aNil)) (eC (.int 12)))))) (sRet (eC (.str "many"))) sNext) b_law_due_10)
noncomputable abbrev b_law_due_6 : Sv := (sSeq (sIf (tOrB (tVal (eOp oNe (eB bLen (aCons (eVar 1) aNil)) (eVar 3))) (tVal (eOp oNe (eF (fComp (iSeq (eVar 1)) (tOrB (tVal (eOp oLt (eVar 4) (eC (.int 1)))) (tVal (eOp oGt (eVar 4) (eOp oPow (eC (.int 10)) (eC (.int 6)))))) (eVar 4))) (eF (fLst aNil))))) (sRet (eC (.str "weights"))) sNext) b_law_due_8)
noncomputable abbrev b_law_due_4 : Sv := (sSeq (sIf (tVal (eOp oIn (eVar 0) (eTup (aCons (eC (.str "even")) (aCons (eC (.str "lack")) aNil))))) (sSet 3 (eB bLen (aCons (eVar 2) aNil))) sNext) b_law_due_6)
noncomputable abbrev b_law_due_3 : Sv := (sSeq (sSet 3 (eC (.int 0))) b_law_due_4)
noncomputable def m_law_due : Mir := fn 3 4 (sSeq (sIf (tVal (eOp oNotIn (eVar 0) (eTup (aCons (eC (.str "row")) (aCons (eC (.str "back")) (aCons (eC (.str "even")) (aCons (eC (.str "lack")) (aCons (eC (.str "part")) (aCons (eC (.str "half")) aNil))))))))) (sRet (eC (.str "way"))) sNext) b_law_due_3)
noncomputable def m_kids_of : Mir := fn 1 1 (sRet (eIf (tVal (eCall m_is_boat (aCons (eVar 0) aNil))) (eTup aNil) (eOp oIx (eVar 0) (eC (.int 2)))))
noncomputable abbrev b_claims_of_5 (r : Mir) : Sv := (sExt 1 (fCall r (aCons (eVar 2) aNil)))
noncomputable abbrev b_claims_of_6 (r : Mir) : Sv := (sRetOwn 1)
noncomputable abbrev b_claims_of_4 (r : Mir) : Sv := (sSeq (sFor (iSeq (eCall m_kids_of (aCons (eVar 0) aNil))) (gName 2) (b_claims_of_5 r)) (b_claims_of_6 r))
noncomputable abbrev b_claims_of_3 (r : Mir) : Sv := (sSeq (sOwn 1 (fLst aNil)) (b_claims_of_4 r))
noncomputable def g_claims_of (r : Mir) : Mir := fn 1 3 (sSeq (sIf (tVal (eCall m_is_boat (aCons (eVar 0) aNil))) (sRetF (fLst (aCons (eOp oIx (eVar 0) (eC (.int 1))) aNil))) sNext) (b_claims_of_3 r))
noncomputable def m_claims_of : Nat → Mir
  | 0 => fn 1 3 sNo
  | n + 1 => g_claims_of (m_claims_of n)
noncomputable def g_deep_of (r : Mir) : Mir := fn 1 1 (sRet (eOp oAdd (eC (.int 1)) (eOp (fun x y => bMaxD [x, y]) (eF (fComp (iSeq (eCall m_kids_of (aCons (eVar 0) aNil))) tTrue (eCall r (aCons (eVar 1) aNil)))) (eC (.int 0)))))
noncomputable def m_deep_of : Nat → Mir
  | 0 => fn 1 1 sNo
  | n + 1 => g_deep_of (m_deep_of n)
noncomputable abbrev b_knot_6 : Sv := (sRet (eVar 3))
noncomputable abbrev b_knot_4 : Sv := (sSeq (sIf (tOrB (tVal (eOp oEq (eB bLen (aCons (eVar 2) aNil)) (eC (.int 0)))) (tOrB (tVal (eOp oGt (eB bLen (aCons (eF (fCall (m_claims_of 10) (aCons (eVar 3) aNil))) aNil)) (eC d_MOST_BOATS))) (tVal (eOp oGt (eCall (m_deep_of 10) (aCons (eVar 3) aNil)) (eC d_DEEPEST))))) (sRaise "TooMany" (aCons (eC (.str "no kid, or too many boats, or too deep")) aNil)) sNext) b_knot_6)
noncomputable abbrev b_knot_3 : Sv := (sSeq (sSet 3 (eTup (aCons (eVar 0) (aCons (eB bTup (aCons (eVar 1) aNil)) (aCons (eB bTup (aCons (eVar 2) aNil)) aNil))))) b_knot_4)
noncomputable abbrev b_knot_2 : Sv := (sSeq (sDrop (eCall m_refuse_weights (aCons (eVar 0) (aCons (eVar 1) (aCons (eB bLen (aCons (eVar 2) aNil)) aNil))))) b_knot_3)
noncomputable def m_knot : Mir := fn 3 4 (sSeq (sDrop (eCall m_refuse_way (aCons (eVar 0) aNil))) b_knot_2)
noncomputable abbrev b_law_told_11 : Sv := (sApp 4 (eIsE ancT 5 ["BadCatch", "BadLine", "NoBoat", "NoFraction", "NoText", "Outside", "Unlike"]))
noncomputable abbrev b_law_told_10 : Sv := (sSeq (sApp 4 (eUn oNot (eIsE ancT 5 ["ValueError"]))) b_law_told_11)
noncomputable abbrev b_law_told_16 : Sv := (sRet (eOp oIx (eF (fLst (aCons (eC (.str "claim")) (aCons (eC (.str "way")) (aCons (eC (.str "weights")) (aCons (eC (.str "many")) (aCons (eC (.str "odd")) (aCons (eC (.str "other")) aNil)))))))) (eIdx true (eVar 4))))
noncomputable abbrev b_law_told_14 : Sv := (sSeq (sIf (tVal (eOp oNe (eCnt true (eVar 4)) (eC (.int 1)))) (sRet (eC (.str "two"))) sNext) b_law_told_16)
noncomputable abbrev b_law_told_12 : Sv := (sFrzAt 4 (sSeq (sIf (tVal (eOp oEq (eVar 4) (eF (fLst aNil)))) (sRet (eVar 3)) sNext) b_law_told_14))
noncomputable abbrev b_law_told_3 : Sv := (sSeq (sTry tbT 5 (xIf (tVal (eIsN (eVar 0))) (xSet 3 m_boat (aCons (eVar 1) aNil)) (xSet 3 m_knot (aCons (eVar 0) (aCons (eVar 1) (aCons (eVar 2) aNil))))) (sSeq (sOwn 4 (fLst (aCons (eIsE ancT 5 ["BadClaim"]) (aCons (eIsE ancT 5 ["BadWay"]) (aCons (eIsE ancT 5 ["BadWeights"]) (aCons (eIsE ancT 5 ["TooMany"]) aNil)))))) b_law_told_10)) b_law_told_12)
noncomputable abbrev b_law_told_2 : Sv := (sSeq (sOwn 4 (fLst aNil)) b_law_told_3)
noncomputable def m_law_told : Mir := fn 3 6 (sSeq (sSet 3 (eC .non)) b_law_told_2)
noncomputable abbrev b_law_knot_17 : Sv := (sRet (eTup (aCons (eVar 10) (aCons (eVar 7) (aCons (eVar 5) aNil)))))
noncomputable abbrev b_law_knot_11 : Sv := (sLent 9 10 (fList (aCons (eVar 6) aNil)) (fList (aCons (eVar 8) aNil)) (eCall m_law_told (aCons (eVar 4) (aCons (eOp oIx (eVar 9) (eC (.int 0))) (aCons (eOp oIx (eVar 9) (eC (.int 1))) aNil)))) (tVal (eOp oNe (eVar 9) (eF (fLst (aCons (eVar 6) (aCons (eVar 8) aNil)))))) b_law_knot_17)
noncomputable abbrev b_law_knot_9 : Sv := (sSeq (sIf (tVal (eOp oEq (eOp oMod (eVar 1) (eC (.int 2))) (eC (.int 1)))) (sRet (eTup (aCons (eCall m_law_told (aCons (eVar 4) (aCons (eB bTup (aCons (eVar 6) aNil)) (aCons (eB bTup (aCons (eVar 8) aNil)) aNil)))) (aCons (eVar 7) (aCons (eVar 5) aNil))))) sNext) b_law_knot_11)
noncomputable abbrev b_law_knot_8 : Sv := (sSeq (sSet 8 (eF (fComp (iSeq (eVar 5)) tTrue (eOp oIx (eVar 11) (eC (.int 0)))))) b_law_knot_9)
noncomputable abbrev b_law_knot_7 : Sv := (sSeq (sSet 7 (eCall m_law_due (aCons (eVar 4) (aCons (eVar 6) (aCons (eVar 5) aNil))))) b_law_knot_8)
noncomputable abbrev b_law_knot_6 : Sv := (sSeq (sSet 6 (eCall m_law_weights (aCons (eVar 4) (aCons (eOp oDiv (eVar 1) (eC (.int 72))) (aCons (eVar 2) aNil))))) b_law_knot_7)
noncomputable abbrev b_law_knot_5 : Sv := (sSeq (sSet 5 (eF (fSl (eVar 0) (oS (eOp oSub (eB bLen (aCons (eVar 0) aNil)) (eVar 2))) oN))) b_law_knot_6)
noncomputable abbrev b_law_knot_4 : Sv := (sSeq (sSet 4 (eOp oIx (eVar 3) (eOp oMod (eOp oDiv (eVar 1) (eC (.int 3))) (eC (.int 9))))) b_law_knot_5)
noncomputable abbrev b_law_knot_3 : Sv := (sSeq (sSet 3 (eF (fLst (aCons (eC (.str "row")) (aCons (eC (.str "back")) (aCons (eC (.str "even")) (aCons (eC (.str "lack")) (aCons (eC (.str "part")) (aCons (eC (.str "half")) (aCons (eC (.str "even")) (aCons (eC (.str "lack")) (aCons (eOp oIx (eF (fLst (aCons (eC (.str "")) (aCons (eC (.str "Row")) (aCons (eC (.str "rows")) (aCons (eC (.str "boat")) aNil)))))) (eOp oMod (eOp oDiv (eVar 1) (eC (.int 5))) (eC (.int 4)))) aNil)))))))))))) b_law_knot_4)
noncomputable abbrev b_law_knot_2 : Sv := (sSeq (sSet 2 (eB bMin (aCons (eVar 2) (aCons (eB bLen (aCons (eVar 0) aNil)) aNil)))) b_law_knot_3)
noncomputable def m_law_knot : Mir := fn 2 11 (sSeq (sSet 2 (eOp oIx (eF (fLst (aCons (eOp oMod (eOp oDiv (eVar 1) (eC (.int 9))) (eC (.int 4))) (aCons (eOp oAdd (eC (.int 1)) (eOp oMod (eOp oDiv (eVar 1) (eC (.int 9))) (eC (.int 13)))) (aCons (eC (.int 1)) aNil))))) (eOp oMod (eOp oDiv (eVar 1) (eC (.int 36))) (eC (.int 3))))) b_law_knot_2)
noncomputable abbrev b_law_alike_5 (r : Mir) : Sv := (sIf (tNotB (tVal (eCall r (aCons (eOp oIx (eVar 0) (eVar 2)) (aCons (eOp oIx (eVar 1) (eVar 2)) aNil))))) (sRet (eC (.bl false))) sNext)
noncomputable abbrev b_law_alike_7 (r : Mir) : Sv := (sRet (eC (.bl true)))
noncomputable abbrev b_law_alike_4 (r : Mir) : Sv := (sSeq (sFor (iRng1 (aCons (eB bLen (aCons (eVar 1) aNil)) aNil)) (gName 2) (b_law_alike_5 r)) (b_law_alike_7 r))
noncomputable abbrev b_law_alike_10 (r : Mir) : Sv := (sRet (eAnd (eIsT "int" (eVar 0)) (eAnd (eUn oNot (eIsT "bool" (eVar 0))) (eOp oEq (eVar 0) (eVar 1)))))
noncomputable abbrev b_law_alike_8 (r : Mir) : Sv := (sSeq (sIf (tVal (eIsT "str" (eVar 1))) (sRet (eAnd (eIsT "str" (eVar 0)) (eOp oEq (eVar 0) (eVar 1)))) sNext) (b_law_alike_10 r))
noncomputable def g_law_alike (r : Mir) : Mir := fn 2 3 (sSeq (sIf (tVal (eIsT "tuple" (eVar 1))) (sSeq (sIf (tOrB (tNotB (tVal (eIsT "tuple" (eVar 0)))) (tVal (eOp oNe (eB bLen (aCons (eVar 0) aNil)) (eB bLen (aCons (eVar 1) aNil))))) (sRet (eC (.bl false))) sNext) (b_law_alike_4 r)) sNext) (b_law_alike_8 r))
noncomputable def m_law_alike : Nat → Mir
  | 0 => fn 2 3 sNo
  | n + 1 => g_law_alike (m_law_alike n)
noncomputable abbrev b_law_6 : Sv := (sIf (tOrB (tVal (eOp oLt (eVar 3) (eC (.int 0)))) (tVal (eOp oGt (eVar 3) (eOp oPow (eC (.int 10)) (eC (.int 9)))))) (sIf (tVal (eOp oNe (eVar 4) (eC (.str "claim")))) (sRet (eC (.bl false))) sNext) (sIf (tNotB (tVal (eCall (m_law_alike 24) (aCons (eVar 4) (aCons (eTup (aCons (eC (.str "boat")) (aCons (eVar 3) aNil))) aNil))))) (sRet (eC (.bl false))) (sApp 1 (eTup (aCons (eVar 4) (aCons (eC (.int 1)) (aCons (eC (.int 1)) aNil)))))))
noncomputable abbrev b_law_5 : Sv := (sSeq (sSet 4 (eCall m_law_told (aCons (eC .non) (aCons (eVar 3) (aCons (eF (fLst aNil)) aNil))))) b_law_6)
noncomputable abbrev b_law_3 : Sv := (sIf (tFrzB (tAndB (tVal (eOp oLt (eOp oMod (eVar 2) (eC (.int 3))) (eC (.int 2)))) (tVal (eOp oLt (eB bLen (aCons (eVar 1) aNil)) (eC (.int 14)))))) (sSeq (sSet 3 (eOp oIx (eF (fLst (aCons (eOp oSub (eOp oMod (eOp oDiv (eVar 2) (eC (.int 3))) (eC (.int 15))) (eC (.int 2))) (aCons (eOp oAdd (eOp oSub (eOp oPow (eC (.int 10)) (eC (.int 9))) (eC (.int 2))) (eOp oMod (eOp oDiv (eVar 2) (eC (.int 3))) (eC (.int 5)))) aNil)))) (eOp oMod (eOp oDiv (eVar 2) (eC (.int 45))) (eC (.int 2))))) b_law_5) (sPile 1 4 5 6 (eCall m_law_knot (aCons (eVar 1) (aCons (eOp oDiv (eVar 2) (eC (.int 3))) aNil))) (tVal (eIsT "str" (eVar 5))) (tOrB (tNotB (tVal (eIsT "str" (eVar 4)))) (tVal (eOp oNe (eVar 4) (eVar 5)))) (tNotB (tVal (eCall (m_law_alike 24) (aCons (eVar 4) (aCons (eVar 5) aNil))))) (fSl (eVar 1) oN (oS (eOp oSub (eB bLen (aCons (eVar 1) aNil)) (eB bLen (aCons (eVar 6) aNil))))) (eTup (aCons (eVar 4) (aCons (eB bSum (aCons (eF (fComp (iSeq (eVar 6)) tTrue (eOp oIx (eVar 7) (eC (.int 1))))) aNil)) (aCons (eOp oAdd (eC (.int 1)) (eB bMaxL (aCons (eF (fComp (iSeq (eVar 6)) tTrue (eOp oIx (eVar 7) (eC (.int 2))))) aNil))) aNil))))))
noncomputable abbrev b_law_23 : Sv := (sRet (eC (.bl true)))
noncomputable abbrev b_law_2 : Sv := (sSeq (sFor (iSeq (eF (fCat (eF (fLst (aCons (eC (.int 0)) aNil))) (eF (fSl (eVar 0) oN (oS (eC (.int 60)))))))) (gName 2) b_law_3) b_law_23)
noncomputable def m_law : Mir := fn 1 7 (sSeq (sOwn 1 (fLst aNil)) b_law_2)
end Lw

namespace Lw
open L3 PySem Fr Fq Ln
local macro_rules | `(tactic| walk_at "ev") => `(tactic| simp only [d_WEIGHTED, d_BOAT, d_MOST_BOATS, d_DEEPEST, fn_at, eSlQ_at, slQF, slQE_at, slQG_l, slQG_t, eFst_at, eJoin_at, enumF_t, iZip_at, iEnum_at, enumF_l, fComp2_at, sTab, eTabAt_at, tabS,  iStr_at, chrD_s, eSlS_at, slSE, slSF, slSG, slS_s, eChain_at, chA, chB, chnF_t, chnF_f, oAddS_s, oMulS_s, oIxS_0, oInS_s, oNotInS_s, bStr_i, bLenS_s, chO_s, oEq_s, oNe_s, oTabNot_s, oTabIn_s, L3.start, sSeq_at, seqF_nx, seqF_ret, seqF_brk, seqF_ctn, sSet_at, setF, sOwn_at, ownF, sRet_at, retF, sRetF_at, retFF, sRetOwn_at, retS, sRetN, sIf_at, ifF_t, ifF_f, sNext, sBrk, sCtn, sNo, sDrop_at, dropF, dropG, eVar_at, varS, eC, eOp_at, opF, eUn, eCall_at, callF, rtF, eB, eTup_at, tupF, aCons_at, consF, consG, aNil, tVal_at, blF, tNotB_at, notF, tAndB_at, tandF_t, tandF_f, tOrB_at, torF_t, torF_f, eAnd_at, andF_t, andF_f, eOr_at, orF_t, orF_f, eIf_at, eifF_t, eifF_f, eF_at, efF, fLst_at, fLstF, fCall_at, fcallF, rtFF, fList_at, fListF_l, fListF_t, fComp_at, fRep_at, repF, fCat_at, catF, catG, eFrz_at, frzF, fFrz_at, fFrzF, oN, oS_at, oSF, fSl3_at, fSl3F, fSl3G, fSl3H, fSl3I_i, fSl_at, fSlF, fSlG, fSlH, eSlT_at, eSlF, eSlG, eSlH, eIsN_at, isNF, eNotN_at, notNF, isNon, sApp_at, appS, appF, sExt_at, extS, extF, sAug_at, augS, augF, xDrop_at, xdropF, xSet_at, xsetF, setG, xIf_at, sTry_at, tryF_ok, tryF_err, tryE_t, tryH_nx, eIsE_at, sUnp_at, unpF, nxF, gLst_at, bSum_l, bSum_t, gTup_at, gtF_t, gCons_at, gNil_at, gName, sFor_at, forF, iRev_at, revD_t, iSeq_at, seqD_l, seqD_t, iLst_at, lstD, iTpl_at, tplD, iRng1_at, iRng2_at, iRng3_at, sFrz, sFrzAt, frzAt, tFrzB, okb, erb, Rt.d, fin, oAdd_i, oAddI_i, oSub_i, oMul_i, oDiv_i, oMod_i, oPow_i, oEq_i, oNe_i, oLt_i, oLe_i, oGt_i, oGe_i, oIx_tc, sPop_at, popS, dp_mk, ty_dp, len_dp, ix_dp0, ix_dp1, dep_dp, noL_dp, oEq_dp, oNe_dp, noLs_dps, oNeg_i, oNot_b, bAbs_i, bLen_t, bLen_l, bMax_i, bMin_i, bTup_t, bTup_l, eIsT_at, isTF, isT, ty_i, ty_t, ty_l, ty_b, ty_s, ty_n, ofO_some, atD, sRaise_at, raiseF, Sl.frz, noErr, dep, depS, noL, noLs, List.map_cons, List.map_nil, List.cons_append, List.nil_append, List.append_nil, List.replicate, List.length_cons, List.length_nil, List.getElem?_cons_zero, List.getElem?_cons_succ, List.set_cons_zero, List.set_cons_succ, Nat.reduceAdd, Nat.reduceSub, Nat.reduceLeDiff, Nat.reduceEqDiff, Nat.zero_add, Nat.sub_self, Nat.max_self, Nat.zero_le, if_true, ite_true, ite_false, if_false, Bool.false_eq_true, Bool.not_true, Bool.not_false, reduceIte, ite_self, Int.toNat_zero, Int.reduceToNat, Int.reduceLE, Int.reduceLT, Int.le_refl, decide_true, decide_false, Bool.or_true, Bool.or_false, Bool.true_or, Bool.false_or, Bool.and_true, Bool.true_and, Bool.and_false, Bool.false_and, String.reduceBEq, String.reduceEq, beq_self_eq_true, ix_dq0, ix_dq1, ty_dq, dep_dq, noL_dq, len_dq, eq_dq, oEq_dq, oNe_dq, List.length_map, okDiv_lit, okMul_litr, okMul_litl, okp9, okp12, okp20, okp30, okp59, okp60, okp40, okp13, p10, fdiv_pos, fmod_pos, Int.reduceEq, Int.reduceNeg, p10ne, p10ne2, p10pos2, Int.reduceMul, Int.reduceAdd, Int.reduceSub, Int.reduceDiv, Int.reduceMod, eqD, Nat.reduceLT, Nat.reducePow, ne_eq, not_true_eq_false, not_false_eq_true])

noncomputable def wys : List Str := ["row", "back", "even", "lack", "part", "half"]
/-- as many weights as are due -/
noncomputable def wOK (w : Str) (ws : List Int) (m : Nat) : Prop := (w = "even" ∨ w = "lack") ∧ ws.length = m ∧ (∀ x ∈ ws, 1 ≤ x ∧ x ≤ 10 ^ 6) ∨ ¬ (w = "even" ∨ w = "lack") ∧ ws = []
/-- a custom of at most that depth -/
noncomputable def IsC : Nat → D → Prop
  | 0, _ => False
  | n + 1, d => (∃ c : Int, d = .tup [.str "boat", .int c]) ∨ ∃ (w : Str) (ws : List Int) (ks : List D), d = .tup [.str w, .tup (ws.map D.int), .tup ks] ∧ (w == "boat") = false ∧ 0 < ks.length ∧ ks.length ≤ 100 ∧ ws.length ≤ 100 ∧ (w ∈ wys ∧ wOK w ws ks.length) ∧ ∀ k ∈ ks, IsC n k
noncomputable def clm : Nat → D → List Int
  | 0, _ => []
  | n + 1, d => match d with
    | .tup [_, .int c] => [c]
    | .tup [_, _, .tup ks] => ks.flatMap (clm n)
    | _ => []
noncomputable def dpt : Nat → D → Int
  | 0, _ => 0
  | n + 1, d => match d with
    | .tup [_, _, .tup ks] => 1 + mx0 (ks.map (dpt n))
    | _ => 1
theorem f_is_boat1 {c : Int} : m_is_boat [.tup [.str "boat", .int c]] = .ok (.v (.bl true)) := by
  unfold m_is_boat
  walk_at "ev"
theorem f_is_boat2 {w : Str} {a b : D} (h : (w == "boat") = false) : m_is_boat [.tup [.str w, a, b]] = .ok (.v (.bl false)) := by
  unfold m_is_boat
  walk_at "ev"
  rw [h]
theorem f_kids_of1 {c : Int} : m_kids_of [.tup [.str "boat", .int c]] = .ok (.v (.tup [])) := by
  unfold m_kids_of
  walk_at "ev"
  rw [f_is_boat1]
  walk_at "ev"
theorem f_kids_of2 {w : Str} {a b : D} (h : (w == "boat") = false) : m_kids_of [.tup [.str w, a, b]] = .ok (.v b) := by
  unfold m_kids_of
  walk_at "ev"
  rw [f_is_boat2 h]
  walk_at "ev"
theorem len_fm {ks : List D} {n i : Nat} : ((ks.take i).flatMap (clm n)).length ≤ (ks.flatMap (clm n)).length := by
  conv => rhs; rw [← List.take_append_drop i ks, List.flatMap_append, List.length_append]
  exact Nat.le_add_right _ _
theorem len_k {ks : List D} {n : Nat} {k : D} (h : k ∈ ks) : (clm n k).length ≤ (ks.flatMap (clm n)).length := by
  obtain ⟨a, b, rfl⟩ := List.append_of_mem h
  rw [List.flatMap_append, List.flatMap_cons, List.length_append, List.length_append]
  omega
theorem f_claims_of : ∀ (n : Nat) (d : D), IsC n d → (clm n d).length ≤ 1000 → m_claims_of n [d] = .ok (.f ((clm n d).map D.int))
  | 0, d, h, _ => h.elim
  | n + 1, d, h, hl => by
    show g_claims_of (m_claims_of n) [d] = _
    unfold g_claims_of
    walk_at "ev"
    rcases h with ⟨c, rfl⟩ | ⟨w, ws, ks, rfl, hw, k0, k1, w1, hy, hk⟩
    · rw [f_is_boat1]
      walk_at "ev"
      rfl
    · rw [f_is_boat2 hw]
      walk_at "ev"
      rw [f_kids_of2 hw]
      walk_at "ev"
      refine loop_gl (Q := fun r => r.bind fin = .ok (.f ((ks.flatMap (clm n)).map D.int))) (fun i ρ => ∃ a, ρ = [.val (.tup [.str w, .tup (ws.map D.int), .tup ks]), .own (((ks.take i).flatMap (clm n)).map D.int), a]) ⟨_, rfl⟩ ?_ ?_
      · rintro i e ρ he ⟨a, rfl⟩
        have hm := List.mem_of_getElem? he
        have hl' : (ks.flatMap (clm n)).length ≤ 1000 := hl
        have l1 := len_k (n := n) hm
        have l2 := len_fm (ks := ks) (n := n) (i := i)
        walk_at "ev"
        rw [f_claims_of n e (hk e hm) (by omega)]
        walk_at "ev"
        rw [if_pos (by omega)]
        refine ⟨_, rfl, .val e, ?_⟩
        rw [take_succ' he, List.flatMap_append, List.map_append]
        simp [List.flatMap]
      · rintro ρ' ⟨a, rfl⟩
        walk_at "ev"
        rw [List.take_length]
theorem f_deep_of : ∀ (n : Nat) (d : D), IsC n d → m_deep_of n [d] = .ok (.v (.int (dpt n d)))
  | 0, d, h => h.elim
  | n + 1, d, h => by
    show g_deep_of (m_deep_of n) [d] = _
    unfold g_deep_of
    walk_at "ev"
    rcases h with ⟨c, rfl⟩ | ⟨w, ws, ks, rfl, hw, k0, k1, w1, hy, hk⟩
    · rw [f_kids_of1]
      walk_at "ev"
      rfl
    · rw [f_kids_of2 hw]
      walk_at "ev"
      have e := compF_of (u := fun k => k) (g := fun k => .int (dpt n k)) (l := ks) (f := eCall (m_deep_of n) (aCons (eVar 1) aNil)) (ρ := [.val (.tup [.str w, .tup (ws.map D.int), .tup ks])]) (by omega) (fun k hm => by
        walk_at "ev"
        rw [f_deep_of n k (hk k hm)]
        walk_at "ev")
      rw [List.map_id'] at e
      rw [e]
      walk_at "ev"
      rw [bMaxD_map]
      walk_at "ev"
      rfl
/-- whole numbers, texts and tuples of such -/
noncomputable def dOK : Nat → D → Prop
  | 0, _ => False
  | n + 1, d => (∃ i, d = .int i) ∨ (∃ x, d = .str x) ∨ ∃ ds, d = .tup ds ∧ ds.length ≤ 1000 ∧ ∀ e ∈ ds, dOK n e
theorem dOK_mono : ∀ {n m : Nat} {d : D}, dOK n d → n ≤ m → dOK m d
  | 0, _, _, h, _ => h.elim
  | n + 1, 0, _, _, l => absurd l (by omega)
  | n + 1, m + 1, d, h, l => by
    rcases h with h | h | ⟨ds, rfl, hl, he⟩
    · exact .inl h
    · exact .inr (.inl h)
    · exact .inr (.inr ⟨ds, rfl, hl, fun e h => dOK_mono (he e h) (by omega)⟩)
theorem f_law_alike : ∀ (n : Nat) (d : D), dOK n d → m_law_alike n [d, d] = .ok (.v (.bl true))
  | 0, d, h => h.elim
  | n + 1, d, h => by
    show g_law_alike (m_law_alike n) [d, d] = _
    unfold g_law_alike
    walk_at "ev"
    rcases h with ⟨i, rfl⟩ | ⟨x, rfl⟩ | ⟨ds, rfl, hl, he⟩
    · walk_at "ev"
    · walk_at "ev"
    · walk_at "ev"
      rw [rng1F_i (by omega) (by omega)]
      walk_at "ev"
      refine loop_gl (Q := fun r => (r.bind (seqF (b_law_alike_8 (m_law_alike n)))).bind fin = .ok (.v (.bl true))) (fun i ρ => ∃ a, ρ = [.val (.tup ds), .val (.tup ds), a]) ⟨_, rfl⟩ ?_ ?_
      · rintro i e ρ hd ⟨a, rfl⟩
        obtain ⟨hi, rfl⟩ := rng_ix hd
        rw [Int.toNat_natCast] at hi
        have hx : ds[i]? = some ds[i] := List.getElem?_eq_getElem hi
        have ho := he _ (List.mem_of_getElem? hx)
        generalize ds[i] = v at hx ho
        have ix : oIx (.tup ds) (.int (0 + (i : Int) * 1)) = .ok v := by
          show ofO (atD ds _) = _
          unfold atD
          rw [if_pos (by omega), show (0 + (i : Int) * 1).toNat = i by omega, hx]; rfl
        walk_at "ev"
        rw [ix]
        walk_at "ev"
        rw [ix]
        walk_at "ev"
        rw [f_law_alike n v ho]
        walk_at "ev"
        exact ⟨_, rfl, _, rfl⟩
      · rintro ρ' ⟨a, rfl⟩
        walk_at "ev"
theorem isC_ok : ∀ (n : Nat) (d : D), IsC n d → dOK (2 * n + 1) d
  | 0, d, h => h.elim
  | n + 1, d, h => by
    rcases h with ⟨c, rfl⟩ | ⟨w, ws, ks, rfl, hw, k0, k1, w1, hy, hk⟩
    · refine .inr (.inr ⟨_, rfl, by simp, fun e he => ?_⟩)
      rcases List.mem_cons.mp he with rfl | he
      · exact .inr (.inl ⟨_, rfl⟩)
      · rw [List.mem_singleton.mp he]; exact .inl ⟨_, rfl⟩
    · refine .inr (.inr ⟨_, rfl, by simp, fun e he => ?_⟩)
      rcases List.mem_cons.mp he with rfl | he
      · exact .inr (.inl ⟨_, rfl⟩)
      · rcases List.mem_cons.mp he with rfl | he
        · refine .inr (.inr ⟨_, rfl, by rw [List.length_map]; omega, fun x hx => ?_⟩)
          obtain ⟨i, _, rfl⟩ := List.mem_map.mp hx
          exact .inl ⟨_, rfl⟩
        · rw [List.mem_singleton.mp he]
          exact .inr (.inr ⟨_, rfl, by omega, fun x hx => isC_ok n x (hk x hx)⟩)
theorem isC_noL : ∀ (n : Nat) (d : D), dOK n d → noL d = true
  | 0, d, h => h.elim
  | n + 1, d, h => by
    rcases h with ⟨i, rfl⟩ | ⟨x, rfl⟩ | ⟨ds, rfl, hl, he⟩
    · simp [noL]
    · simp [noL]
    · rw [noL]
      clear hl
      induction ds with
      | nil => rfl
      | cons a r ih => rw [noLs, isC_noL n a (he a List.mem_cons_self), ih fun e h => he e (List.mem_cons_of_mem _ h)]; rfl
theorem isC_mono : ∀ {n m : Nat} {d : D}, IsC n d → n ≤ m → IsC m d
  | 0, _, _, h, _ => h.elim
  | n + 1, 0, _, _, l => absurd l (by omega)
  | n + 1, m + 1, d, h, l => by
    rcases h with h | ⟨w, ws, ks, rfl, hw, k0, k1, w1, hy, hk⟩
    · exact .inl h
    · exact .inr ⟨w, ws, ks, rfl, hw, k0, k1, w1, hy, fun k h => isC_mono (hk k h) (by omega)⟩
theorem clm_mono : ∀ {n m : Nat} {d : D}, IsC n d → n ≤ m → clm m d = clm n d
  | 0, _, _, h, _ => h.elim
  | n + 1, 0, _, _, l => absurd l (by omega)
  | n + 1, m + 1, d, h, l => by
    rcases h with ⟨c, rfl⟩ | ⟨w, ws, ks, rfl, hw, k0, k1, w1, hy, hk⟩
    · rfl
    · show ks.flatMap (clm m) = ks.flatMap (clm n)
      rw [List.flatMap_def, List.flatMap_def]
      congr 1
      exact List.map_congr_left fun k h => clm_mono (hk k h) (by omega)
theorem dpt_mono : ∀ {n m : Nat} {d : D}, IsC n d → n ≤ m → dpt m d = dpt n d
  | 0, _, _, h, _ => h.elim
  | n + 1, 0, _, _, l => absurd l (by omega)
  | n + 1, m + 1, d, h, l => by
    rcases h with ⟨c, rfl⟩ | ⟨w, ws, ks, rfl, hw, k0, k1, w1, hy, hk⟩
    · rfl
    · show 1 + mx0 (ks.map (dpt m)) = 1 + mx0 (ks.map (dpt n))
      rw [List.map_congr_left fun k h => dpt_mono (hk k h) (by omega)]
theorem mx0_le : ∀ {l : List Int} {b : Int}, 0 ≤ b → (∀ x ∈ l, x ≤ b) → mx0 l ≤ b
  | [], b, h, _ => h
  | a :: r, b, _, h => by
    have key : ∀ (r : List Int) (a : Int), a ≤ b → (∀ x ∈ r, x ≤ b) → maxI a r ≤ b := by
      intro r
      induction r with
      | nil => intro a ha _; exact ha
      | cons c r ih =>
        intro a ha hr
        rw [maxI]
        refine ih _ ?_ fun x hx => hr x (List.mem_cons_of_mem _ hx)
        split
        · exact hr c List.mem_cons_self
        · exact ha
    exact key r a (h a List.mem_cons_self) fun x hx => h x (List.mem_cons_of_mem _ hx)
theorem le_mx0 : ∀ {l : List Int} {x : Int}, x ∈ l → x ≤ mx0 l
  | [], _, h => by cases h
  | a :: r, x, h => by
    have key : ∀ (r : List Int) (a : Int), a ≤ maxI a r ∧ ∀ x ∈ r, x ≤ maxI a r := by
      intro r
      induction r with
      | nil => intro a; exact ⟨Int.le_refl _, fun x h => by cases h⟩
      | cons c r ih =>
        intro a
        rw [maxI]
        have h1 := ih (if c > a then c else a)
        refine ⟨Int.le_trans ?_ h1.1, fun x hx => ?_⟩
        · split <;> omega
        · rcases List.mem_cons.mp hx with rfl | hx
          · refine Int.le_trans ?_ h1.1; split <;> omega
          · exact h1.2 x hx
    rcases List.mem_cons.mp h with rfl | h
    · exact (key r x).1
    · exact (key r a).2 x h
theorem dpt_le : ∀ {n : Nat} {d : D}, IsC n d → 1 ≤ dpt n d ∧ dpt n d ≤ n
  | 0, _, h => h.elim
  | n + 1, d, h => by
    rcases h with ⟨c, rfl⟩ | ⟨w, ws, ks, rfl, hw, k0, k1, w1, hy, hk⟩
    · exact ⟨by show (1 : Int) ≤ 1; omega, by show (1 : Int) ≤ _; omega⟩
    · have h1 : mx0 (ks.map (dpt n)) ≤ n := mx0_le (by omega) fun x hx => by
        obtain ⟨k, hk', rfl⟩ := List.mem_map.mp hx
        exact (dpt_le (hk k hk')).2
      have h2 : 0 ≤ mx0 (ks.map (dpt n)) := by
        cases ks with
        | nil => cases k0
        | cons k r => exact Int.le_trans (by have := (dpt_le (hk k List.mem_cons_self)).1; omega) (le_mx0 (x := dpt n k) (by simp))
      exact ⟨by show 1 ≤ 1 + mx0 (ks.map (dpt n)); omega, by show 1 + mx0 (ks.map (dpt n)) ≤ ((n + 1 : Nat) : Int); omega⟩
theorem wys_tab {w : Str} (h : w ∈ wys) : (t_CONTRARY.lookup w).isSome = true ∧ (w == "boat") = false := by
  simp only [wys, List.mem_cons, List.not_mem_nil, or_false] at h
  rcases h with rfl | rfl | rfl | rfl | rfl | rfl <;> decide
theorem f_refuse_way {w : Str} (h : w ∈ wys) : m_refuse_way [.str w] = .ok (.v .non) := by
  unfold m_refuse_way
  walk_at "ev"
  rw [(wys_tab h).1]
  walk_at "ev"
theorem in_wt {w : Str} : oIn (.str w) (.tup [.str "even", .str "lack"]) = .ok (.bl (decide (w = "even" ∨ w = "lack"))) := by
  show (if depS [D.str "even", D.str "lack"] ≤ 50 then Res.ok (D.bl (((Str.ofString "even") == w) || (((Str.ofString "lack") == w) || false))) else .no) = _
  rw [if_pos (by decide), Bool.or_false]
  congr 2
  by_cases h1 : w = "even"
  · subst h1; decide
  · by_cases h2 : w = "lack"
    · subst h2; decide
    · rw [decide_eq_false (fun h => h.elim h1 h2), beq_eq_false_iff_ne.mpr (Ne.symm h1), beq_eq_false_iff_ne.mpr (Ne.symm h2)]; rfl
theorem f_refuse_weights {w : Str} {ws : List Int} {m : Nat} {d : D} (hd : d = .lst (ws.map D.int) ∨ d = .tup (ws.map D.int)) (h : wOK w ws m) : m_refuse_weights [.str w, d, .int m] = .ok (.v .non) := by
  have sq : seqD d = .ok (ws.map D.int) := by rcases hd with rfl | rfl <;> rfl
  have ln : bLen [d] = .ok (.int (ws.length : Int)) := by rcases hd with rfl | rfl <;> simp [bLen_l, bLen_t]
  have fine : ∀ x ∈ ws, 1 ≤ x ∧ x ≤ 10 ^ 6 := by
    rcases h with ⟨_, _, h⟩ | ⟨_, rfl⟩
    · exact h
    · intro x hx; cases hx
  have rest : ∀ a : Sl, (b_refuse_weights_4 [.val (.str w), .val d, .val (.int m), a, .un]).bind fin = .ok (.v .non) := by
    intro a
    walk_at "ev"
    rw [sq]
    walk_at "ev"
    refine loop_go (Q := fun r : Res Rt => r = .ok (.v .non)) (fun ρ => ∃ b, ρ = [.val (.str w), .val d, .val (.int m), a, b]) ⟨_, rfl⟩ ?_ ?_
    · rintro e ρ he ⟨b, rfl⟩
      obtain ⟨x, hx, rfl⟩ := List.mem_map.mp he
      have hf := fine x hx
      walk_at "ev"
      rw [decide_eq_false (by omega)]
      walk_at "ev"
      rw [oPow_i (by decide)]
      walk_at "ev"
      rw [decide_eq_false (by omega)]
      walk_at "ev"
      exact ⟨_, rfl, _, rfl⟩
    · rintro ρ' ⟨b, rfl⟩
      rfl
  unfold m_refuse_weights
  walk_at "ev"
  rw [in_wt]
  unfold b_refuse_weights_2
  generalize (b_refuse_weights_4 : Sv) = K at rest ⊢
  rcases h with ⟨hw, hl, _⟩ | ⟨hw, rfl⟩
  · rw [decide_eq_true hw]
    walk_at "ev"
    rw [ln]
    walk_at "ev"
    rw [hl]
    walk_at "ev"
    exact rest _
  · rw [decide_eq_false hw]
    walk_at "ev"
    rw [ln]
    walk_at "ev"
    rw [show decide (((0 : Nat) : Int) = 0) = true from rfl]
    walk_at "ev"
    exact rest _
theorem f_boat {c : Int} (h0 : 0 ≤ c) (h1 : c ≤ 10 ^ 9) : m_boat [.int c] = .ok (.v (.tup [.str "boat", .int c])) := by
  unfold m_boat
  walk_at "ev"
  rw [decide_eq_false (by omega)]
  walk_at "ev"
  rw [decide_eq_false (by omega)]
  walk_at "ev"
/-- a knot that is not refused -/
theorem f_knot {w : Str} {ws : List Int} {ks : List D} {n : Nat} {wd : D} (hd : wd = .lst (ws.map D.int) ∨ wd = .tup (ws.map D.int)) (hw : w ∈ wys) (hs : wOK w ws ks.length) (l1 : ws.length ≤ 100) (k0 : 0 < ks.length) (k1 : ks.length ≤ 100) (hn : n ≤ 7) (hk : ∀ k ∈ ks, IsC n k) (hc : (ks.flatMap (clm n)).length ≤ 12) :
    m_knot [.str w, wd, .lst ks] = .ok (.v (.tup [.str w, .tup (ws.map D.int), .tup ks])) ∧ IsC (n + 1) (.tup [.str w, .tup (ws.map D.int), .tup ks]) := by
  have bt : bTup [wd] = .ok (.tup (ws.map D.int)) := by rcases hd with rfl | rfl <;> rfl
  have ic : IsC (n + 1) (.tup [.str w, .tup (ws.map D.int), .tup ks]) := .inr ⟨w, ws, ks, rfl, (wys_tab hw).2, k0, k1, l1, ⟨hw, hs⟩, hk⟩
  have ic' := isC_mono ic (show n + 1 ≤ 10 by omega)
  have ec := clm_mono ic (show n + 1 ≤ 10 by omega)
  have lc : (clm 10 (.tup [.str w, .tup (ws.map D.int), .tup ks])).length ≤ 12 := by rw [ec]; exact hc
  have dd : dpt 10 (.tup [.str w, .tup (ws.map D.int), .tup ks]) ≤ 8 := by
    rw [dpt_mono ic (show n + 1 ≤ 10 by omega)]
    have := (dpt_le ic).2
    omega
  refine ⟨?_, ic⟩
  unfold m_knot
  walk_at "ev"
  rw [f_refuse_way hw]
  walk_at "ev"
  rw [f_refuse_weights hd hs]
  walk_at "ev"
  rw [bt]
  walk_at "ev"
  rw [decide_eq_false (by omega)]
  walk_at "ev"
  rw [f_claims_of 10 _ ic' (by omega)]
  walk_at "ev"
  rw [decide_eq_false (by omega)]
  walk_at "ev"
  rw [f_deep_of 10 _ ic']
  walk_at "ev"
  rw [decide_eq_false (by omega)]
  walk_at "ev"
/-- the pile, with how deep each one is -/
structure Pl (L : List (D × Int)) (boats : Int) : Prop where
  each : ∀ p ∈ L, 1 ≤ p.2 ∧ p.2 ≤ 7 ∧ IsC p.2.toNat p.1
  few : ((L.flatMap fun p => clm 7 p.1).length : Int) ≤ boats
  most : boats ≤ 12
theorem noLs_of : ∀ {l : List D}, (∀ d ∈ l, noL d = true) → noLs l = true
  | [], _ => rfl
  | a :: r, h => by rw [noLs, h a List.mem_cons_self, noLs_of fun d hd => h d (List.mem_cons_of_mem _ hd)]; rfl
theorem Pl.noL {L : List (D × Int)} {b : Int} (h : Pl L b) : ∀ d ∈ L.map Prod.fst, noL d = true := fun d hd => by
  obtain ⟨p, hp, rfl⟩ := List.mem_map.mp hd
  exact isC_noL _ _ (isC_ok _ _ (h.each p hp).2.2)
theorem dep_ok : ∀ {n : Nat} {d : D}, dOK n d → dep d ≤ n
  | 0, _, h => h.elim
  | n + 1, d, h => by
    rcases h with ⟨i, rfl⟩ | ⟨x, rfl⟩ | ⟨ds, rfl, hl, he⟩
    · simp [dep]
    · simp [dep]
    · rw [dep]
      clear hl
      have : depS ds ≤ n := by
        induction ds with
        | nil => simp [depS]
        | cons a r ih =>
          rw [depS]
          exact Nat.max_le.mpr ⟨dep_ok (he a List.mem_cons_self), ih fun e h => he e (List.mem_cons_of_mem _ h)⟩
      omega
theorem depS_ok {n : Nat} : ∀ {ds : List D}, (∀ d ∈ ds, dOK n d) → depS ds ≤ n
  | [], _ => by simp [depS]
  | a :: r, h => by rw [depS]; exact Nat.max_le.mpr ⟨dep_ok (h a List.mem_cons_self), depS_ok fun e he => h e (List.mem_cons_of_mem _ he)⟩
theorem Pl.dOK {L : List (D × Int)} {b : Int} (h : Pl L b) : ∀ d ∈ L.map Prod.fst, dOK 15 d := fun d hd => by
  obtain ⟨p, hp, rfl⟩ := List.mem_map.mp hd
  have := h.each p hp
  exact dOK_mono (isC_ok _ _ this.2.2) (by omega)
theorem eq_nil {l : List D} (h : ∀ d ∈ l, dOK 15 d) : oEq (.lst l) (.lst []) = .ok (.bl (decide (l.length = 0))) ∧ oNe (.lst l) (.lst []) = .ok (.bl (!decide (l.length = 0))) := by
  have hd : dep (.lst l) ≤ 50 := by rw [dep]; have := depS_ok h; omega
  have e : eqD (.lst l) (.lst []) = decide (l.length = 0) := by cases l <;> simp [eqD, eqDs]
  unfold oEq oNe
  rw [if_pos hd, if_pos hd, e]
  exact ⟨rfl, rfl⟩
theorem fm_len {L : List (D × Int)} {n k : Nat} (h : ∀ p ∈ L, IsC n p.1) (l : n ≤ 7) : ((L.drop k).map Prod.fst).flatMap (clm n) = (L.drop k).flatMap fun p => clm 7 p.1 := by
  rw [List.flatMap_map]
  rw [List.flatMap_def, List.flatMap_def]
  congr 1
  exact List.map_congr_left fun p hp => (clm_mono (h p (List.mem_of_mem_drop hp)) l).symm

theorem isC_dpt : ∀ {n : Nat} {d : D}, IsC n d → IsC (dpt n d).toNat d
  | 0, _, h => h.elim
  | n + 1, d, h => by
    rcases h with ⟨c, rfl⟩ | ⟨w, ws, ks, rfl, hw, k0, k1, w1, hy, hk⟩
    · exact .inl ⟨c, rfl⟩
    · have m0 : 0 ≤ mx0 (ks.map (dpt n)) := by
        cases ks with
        | nil => cases k0
        | cons k r => exact Int.le_trans (Int.le_trans (by decide) (dpt_le (hk k List.mem_cons_self)).1) (le_mx0 (x := dpt n k) (List.mem_map.mpr ⟨k, List.mem_cons_self, rfl⟩))
      have e : (dpt (n + 1) (.tup [.str w, .tup (ws.map D.int), .tup ks])).toNat = (mx0 (ks.map (dpt n))).toNat + 1 := by
        show (1 + mx0 (ks.map (dpt n))).toNat = _
        omega
      rw [e]
      exact .inr ⟨w, ws, ks, rfl, hw, k0, k1, w1, hy, fun k h => isC_mono (isC_dpt (hk k h)) (Int.toNat_le_toNat (le_mx0 (List.mem_map.mpr ⟨k, h, rfl⟩)))⟩
/-- a custom on the pile, and how it lies there -/
noncomputable def Gd (c : D) : Prop := IsC 8 c ∧ (clm 8 c).length ≤ 12
noncomputable def ent (c : D) : D := .tup [c, .int ((clm 8 c).length : Int), .int (dpt 8 c)]
theorem wys_none {w : Str} (h : w ∉ wys) : (t_CONTRARY.lookup w).isSome = false := by
  have n : ∀ x ∈ wys, (w == x) = false := fun x hx => beq_eq_false_iff_ne.mpr fun e => h (e ▸ hx)
  have a1 := n "row" (by simp [wys])
  have a2 := n "back" (by simp [wys])
  have a3 := n "even" (by simp [wys])
  have a4 := n "lack" (by simp [wys])
  have a5 := n "part" (by simp [wys])
  have a6 := n "half" (by simp [wys])
  simp only [t_CONTRARY, List.lookup_cons, List.lookup_nil, a1, a2, a3, a4, a5, a6]
  rfl
theorem f_way_bad {w : Str} (h : w ∉ wys) : m_refuse_way [.str w] = .err "BadWay" := by
  unfold m_refuse_way
  walk_at "ev"
  rw [wys_none h]
  walk_at "ev"
theorem f_wloop {w d n : D} {m : Sl} : ∀ (ws : List Int) (b : Sl), (∃ x ∈ ws, ¬ (1 ≤ x ∧ x ≤ 10 ^ 6)) → loop (gName 4) b_refuse_weights_5 (ws.map D.int) [.val w, .val d, .val n, m, b] = .err "BadWeights"
  | [], _, ⟨x, h, _⟩ => by cases h
  | x :: r, b, ⟨y, hy, hb⟩ => by
    rw [List.map_cons, loop]
    by_cases c1 : x < 1
    · walk_at "ev"
      rw [decide_eq_true c1]
      walk_at "ev"
    · by_cases c2 : 10 ^ 6 < x
      · walk_at "ev"
        rw [decide_eq_false c1]
        walk_at "ev"
        rw [oPow_i (by decide)]
        walk_at "ev"
        rw [decide_eq_true c2]
        walk_at "ev"
      · have ih := f_wloop (w := w) (d := d) (n := n) (m := m) r (.val (.int x)) (by
          rcases List.mem_cons.mp hy with rfl | hy
          · exact absurd ⟨Int.not_lt.mp c1, Int.not_lt.mp c2⟩ hb
          · exact ⟨y, hy, hb⟩)
        walk_at "ev"
        rw [decide_eq_false c1]
        walk_at "ev"
        rw [oPow_i (by decide)]
        walk_at "ev"
        rw [decide_eq_false c2]
        walk_at "ev"
        exact ih

theorem f_weights_bad {w : Str} {ws : List Int} {m : Nat} {d : D} (hd : d = .lst (ws.map D.int) ∨ d = .tup (ws.map D.int)) (h : ¬ wOK w ws m) : m_refuse_weights [.str w, d, .int m] = .err "BadWeights" := by
  have sq : seqD d = .ok (ws.map D.int) := by rcases hd with rfl | rfl <;> rfl
  have ln : bLen [d] = .ok (.int (ws.length : Int)) := by rcases hd with rfl | rfl <;> simp [bLen_l, bLen_t]
  unfold m_refuse_weights
  walk_at "ev"
  rw [in_wt]
  by_cases hw : w = "even" ∨ w = "lack"
  · rw [decide_eq_true hw]
    walk_at "ev"
    rw [ln]
    walk_at "ev"
    by_cases hl : ws.length = m
    · rw [hl, decide_eq_true rfl]
      walk_at "ev"
      rw [sq]
      walk_at "ev"
      rw [f_wloop]
      · rfl
      · apply Classical.byContradiction
        intro z
        exact h (.inl ⟨hw, hl, fun x hx => Classical.byContradiction fun q => z ⟨x, hx, q⟩⟩)
    · rw [decide_eq_false (show ¬ ((ws.length : Int) = (m : Int)) by omega)]
      walk_at "ev"
  · rw [decide_eq_false hw]
    walk_at "ev"
    rw [ln]
    walk_at "ev"
    rw [decide_eq_false (show ¬ ((ws.length : Int) = 0) from fun z => h (.inr ⟨hw, List.length_eq_zero_iff.mp (by omega)⟩))]
    walk_at "ev"
theorem f_boat_bad {c : Int} (h : c < 0 ∨ 10 ^ 9 < c) : m_boat [.int c] = .err "BadClaim" := by
  unfold m_boat
  walk_at "ev"
  by_cases c1 : c < 0
  · rw [decide_eq_true c1]
    walk_at "ev"
  · rw [decide_eq_false c1]
    walk_at "ev"
    rw [decide_eq_true (h.resolve_left c1)]
    walk_at "ev"
/-- whatever is made into a knot -/
noncomputable def knR (w : Str) (ws : List Int) (ks : List D) : Res Rt :=
  open Classical in
  if w ∈ wys then if wOK w ws ks.length then if 0 < ks.length ∧ (ks.flatMap (clm 8)).length ≤ 12 ∧ mx0 (ks.map (dpt 8)) ≤ 7 then .ok (.v (.tup [.str w, .tup (ws.map D.int), .tup ks])) else .err "TooMany" else .err "BadWeights" else .err "BadWay"
theorem fm_le : ∀ {ks : List D}, (∀ k ∈ ks, Gd k) → (ks.flatMap (clm 8)).length ≤ 12 * ks.length
  | [], _ => Nat.le_refl _
  | k :: r, h => by
    rw [List.flatMap_cons, List.length_append, List.length_cons, Nat.mul_succ, Nat.add_comm]
    exact Nat.add_le_add (fm_le fun x hx => h x (List.mem_cons_of_mem _ hx)) (h k List.mem_cons_self).2
theorem k_knot {w : Str} {ws : List Int} {ks : List D} {wd kd : D} (hd : wd = .lst (ws.map D.int) ∨ wd = .tup (ws.map D.int)) (hkd : kd = .lst ks ∨ kd = .tup ks) (l1 : ws.length ≤ 100) (k1 : ks.length ≤ 80) (hk : ∀ k ∈ ks, Gd k) :
    m_knot [.str w, wd, kd] = knR w ws ks := by
  have bt : bTup [wd] = .ok (.tup (ws.map D.int)) := by rcases hd with rfl | rfl <;> rfl
  have bk : bTup [kd] = .ok (.tup ks) := by rcases hkd with rfl | rfl <;> rfl
  have ln : bLen [kd] = .ok (.int (ks.length : Int)) := by rcases hkd with rfl | rfl <;> simp [bLen_l, bLen_t]
  unfold m_knot knR
  walk_at "ev"
  by_cases hw : w ∈ wys
  · rw [if_pos hw, f_refuse_way hw]
    walk_at "ev"
    rw [ln]
    walk_at "ev"
    by_cases hs : wOK w ws ks.length
    · rw [if_pos hs, f_refuse_weights hd hs]
      walk_at "ev"
      rw [bt]
      walk_at "ev"
      rw [bk]
      walk_at "ev"
      rw [ln]
      walk_at "ev"
      by_cases k0 : ks.length = 0
      · rw [if_neg (fun z => by rw [k0] at z; exact Nat.lt_irrefl _ z.1), k0, show decide (((0 : Nat) : Int) = 0) = true from rfl]
        walk_at "ev"
      · have k0' : 0 < ks.length := Nat.pos_of_ne_zero k0
        have ic : IsC 9 (.tup [.str w, .tup (ws.map D.int), .tup ks]) := .inr ⟨w, ws, ks, rfl, (wys_tab hw).2, k0', by omega, l1, ⟨hw, hs⟩, fun k h => (hk k h).1⟩
        have ic' := isC_mono ic (show 9 ≤ 10 by decide)
        have ec : clm 10 (.tup [.str w, .tup (ws.map D.int), .tup ks]) = ks.flatMap (clm 8) := clm_mono ic (by decide)
        have ed : dpt 10 (.tup [.str w, .tup (ws.map D.int), .tup ks]) = 1 + mx0 (ks.map (dpt 8)) := dpt_mono ic (by decide)
        have fm := fm_le hk
        rw [decide_eq_false (show ¬ ((ks.length : Int) = 0) by omega)]
        walk_at "ev"
        rw [f_claims_of 10 _ ic' (by rw [ec]; omega), ec]
        walk_at "ev"
        by_cases c1 : (ks.flatMap (clm 8)).length ≤ 12
        · rw [decide_eq_false (by omega)]
          walk_at "ev"
          rw [f_deep_of 10 _ ic', ed]
          walk_at "ev"
          by_cases c2 : mx0 (ks.map (dpt 8)) ≤ 7
          · rw [decide_eq_false (by omega), if_pos ⟨k0', c1, c2⟩]
            walk_at "ev"
          · rw [decide_eq_true (by omega), if_neg (fun z => c2 z.2.2)]
            walk_at "ev"
        · rw [decide_eq_true (by omega), if_neg (fun z => c1 z.2.1)]
          walk_at "ev"
    · rw [if_neg hs, f_weights_bad hd hs]
      walk_at "ev"
  · rw [if_neg hw, f_way_bad hw]
    walk_at "ev"
theorem f_told_bad {a b c : D} {e x : Str} (he : (e, x) ∈ [(("BadClaim" : Str), ("claim" : Str)), ("BadWay", "way"), ("BadWeights", "weights"), ("TooMany", "many")]) (hx : xIf (tVal (eIsN (eVar 0))) (xSet 3 m_boat (aCons (eVar 1) aNil)) (xSet 3 m_knot (aCons (eVar 0) (aCons (eVar 1) (aCons (eVar 2) aNil)))) [.val a, .val b, .val c, .val .non, .own [], .un] = .err e) :
    m_law_told [a, b, c] = .ok (.v (.str x)) := by
  unfold m_law_told b_law_told_2 b_law_told_3
  generalize (xIf _ _ _ : Sv) = Z at hx ⊢
  walk_at "ev"
  rw [hx]
  simp only [List.mem_cons, Prod.mk.injEq, List.not_mem_nil, or_false] at he
  rcases he with ⟨rfl, rfl⟩ | ⟨rfl, rfl⟩ | ⟨rfl, rfl⟩ | ⟨rfl, rfl⟩
  · rfl
  · rfl
  · rfl
  · rfl
theorem f_told_ok {a b c d : D} (hx : xIf (tVal (eIsN (eVar 0))) (xSet 3 m_boat (aCons (eVar 1) aNil)) (xSet 3 m_knot (aCons (eVar 0) (aCons (eVar 1) (aCons (eVar 2) aNil)))) [.val a, .val b, .val c, .val .non, .own [], .un] = .ok (.nx [.val a, .val b, .val c, .val d, .own [], .un])) :
    m_law_told [a, b, c] = .ok (.v d) := by
  unfold m_law_told b_law_told_2 b_law_told_3
  generalize (xIf _ _ _ : Sv) = Z at hx ⊢
  walk_at "ev"
  rw [hx]
  rfl

theorem f_told_boat {c : Int} (h0 : 0 ≤ c) (h1 : c ≤ 10 ^ 9) {k : D} : m_law_told [.non, .int c, k] = .ok (.v (.tup [.str "boat", .int c])) := f_told_ok (by
  walk_at "ev"
  rw [f_boat h0 h1]
  walk_at "ev")
theorem f_told_noboat {c : Int} (h : c < 0 ∨ 10 ^ 9 < c) {k : D} : m_law_told [.non, .int c, k] = .ok (.v (.str "claim")) := f_told_bad (e := "BadClaim") (List.mem_cons_self) (by
  walk_at "ev"
  rw [f_boat_bad h]
  walk_at "ev")
/-- what is due for it -/
noncomputable def duD (w : Str) (ws : List Int) (ks : List D) : D :=
  open Classical in
  if w ∈ wys then if wOK w ws ks.length then if 0 < ks.length ∧ (ks.flatMap (clm 8)).length ≤ 12 ∧ mx0 (ks.map (dpt 8)) ≤ 7 then .tup [.str w, .tup (ws.map D.int), .tup ks] else .str "many" else .str "weights" else .str "way"
theorem f_told_knot {w : Str} {ws : List Int} {ks : List D} {wd kd : D} (hd : wd = .lst (ws.map D.int) ∨ wd = .tup (ws.map D.int)) (hkd : kd = .lst ks ∨ kd = .tup ks) (l1 : ws.length ≤ 100) (k1 : ks.length ≤ 80) (hk : ∀ k ∈ ks, Gd k) :
    m_law_told [.str w, wd, kd] = .ok (.v (duD w ws ks)) := by
  have e := k_knot (w := w) hd hkd l1 k1 hk
  have z : ∀ r, m_knot [.str w, wd, kd] = r → xIf (tVal (eIsN (eVar 0))) (xSet 3 m_boat (aCons (eVar 1) aNil)) (xSet 3 m_knot (aCons (eVar 0) (aCons (eVar 1) (aCons (eVar 2) aNil)))) [.val (.str w), .val wd, .val kd, .val .non, .own [], .un] = r.bind fun r => .ok (.nx [.val (.str w), .val wd, .val kd, .val r.d, .own [], .un]) := fun r h => by
    walk_at "ev"
    rw [h]
    cases r <;> rfl
  have z := z _ e
  unfold knR at z
  unfold duD
  by_cases c1 : w ∈ wys
  · rw [if_pos c1] at z ⊢
    by_cases c2 : wOK w ws ks.length
    · rw [if_pos c2] at z ⊢
      by_cases c3 : 0 < ks.length ∧ (ks.flatMap (clm 8)).length ≤ 12 ∧ mx0 (ks.map (dpt 8)) ≤ 7
      · rw [if_pos c3] at z ⊢; exact f_told_ok z
      · rw [if_neg c3] at z ⊢; exact f_told_bad (by simp) z
    · rw [if_neg c2] at z ⊢; exact f_told_bad (by simp) z
  · rw [if_neg c1] at z ⊢; exact f_told_bad (by simp) z
theorem pick2 {a b k : Int} (h0 : 0 ≤ k) (h1 : k < 2) : ∃ v, (v = a ∨ v = b) ∧ oIx (.lst [.int a, .int b]) (.int k) = .ok (.int v) := by
  have : k = 0 ∨ k = 1 := by omega
  rcases this with rfl | rfl
  · exact ⟨_, .inl rfl, rfl⟩
  · exact ⟨_, .inr rfl, rfl⟩
theorem m2 (c : Int) : 0 ≤ c % 2 ∧ c % 2 < 2 := ⟨Int.emod_nonneg _ (by decide), Int.emod_lt_of_pos _ (by decide)⟩
theorem not_in_wt {w : Str} : oNotIn (.str w) (.tup [.str "even", .str "lack"]) = .ok (.bl (!decide (w = "even" ∨ w = "lack"))) := by
  have h : (if depS [D.str "even", D.str "lack"] ≤ 50 then Res.ok (D.bl ([D.str "even", D.str "lack"].any fun e => eqD e (.str w))) else .no) = _ := in_wt (w := w)
  rw [if_pos (by decide)] at h
  show (if depS [D.str "even", D.str "lack"] ≤ 50 then Res.ok (D.bl (!([D.str "even", D.str "lack"].any fun e => eqD e (.str w)))) else .no) = _
  rw [if_pos (by decide), D.bl.inj (Res.ok.inj h)]
theorem pickL {α : Type} {f : α → D} {l : List α} {k : Int} (h0 : 0 ≤ k) (h1 : k < (l.length : Int)) : ∃ a ∈ l, oIx (.lst (l.map f)) (.int k) = .ok (f a) := by
  have hk : k.toNat < l.length := (Int.toNat_lt h0).mpr h1
  exact ⟨l[k.toNat], List.getElem_mem hk, ix_map h0 (List.getElem?_eq_getElem hk)⟩
theorem modn (c : Int) {n : Int} (h : 0 < n) : 0 ≤ c % n ∧ c % n < n := ⟨Int.emod_nonneg _ (Int.ne_of_gt h), Int.emod_lt_of_pos _ h⟩
theorem f_weights {w : Str} {cell : Int} {m : Nat} (hm : m ≤ 20) : ∃ ws : List Int, m_law_weights [.str w, .int cell, .int m] = .ok (.v (.lst (ws.map D.int))) ∧ ws.length ≤ 21 := by
  obtain ⟨v, hv, ev⟩ := pick2 (a := 4) (b := 10 ^ 6) (m2 cell).1 (m2 cell).2
  have v0 : 0 < v := by rcases hv with rfl | rfl <;> decide
  obtain ⟨ts, hts, ec⟩ : ∃ ts : List Int, ts.length = m ∧ ∀ (o : Int), compF tTrue (eOp oAdd (eC (.int 1)) (eOp oMod (eOp oDiv (eVar 1) (eOp oAdd (eC (.int 3)) (eVar 5))) (eOp oIx (eF (fLst (aCons (eC (.int 4)) (aCons (eOp oPow (eC (.int 10)) (eC (.int 6))) aNil)))) (eOp oMod (eVar 1) (eC (.int 2)))))) [.val (.str w), .val (.int cell), .val (.int m), .val (.int o), .un] (rng 0 (m : Int).toNat 1) = .ok (ts.map D.int) := by
    refine ⟨(List.range m).map fun (i : Nat) => 1 + (cell.fdiv (3 + (0 + (i : Int) * 1))).fmod v, by rw [List.length_map, List.length_range], fun o => ?_⟩
    rw [List.map_map]
    refine compF_of (u := fun (i : Nat) => .int (0 + (i : Int) * 1)) (l := List.range m) (by rw [List.length_range]; omega) fun i hi => ?_
    have := List.mem_range.mp hi
    walk_at "ev"
    rw [oDiv_i (okDiv_lit (by omega) (by omega))]
    walk_at "ev"
    rw [oPow_i (by decide)]
    walk_at "ev"
    rw [ev]
    walk_at "ev"
    rw [oMod_i (Int.ne_of_gt v0)]
    rfl
  clear v0 ev hv
  unfold m_law_weights
  walk_at "ev"
  rw [rng1F_i (by omega) (by omega)]
  walk_at "ev"
  rw [ec]
  clear ec
  walk_at "ev"
  rw [not_in_wt]
  have last : ∀ (o : Int), ∃ ws : List Int, (b_law_weights_11 [.val (.str w), .val (.int cell), .val (.int m), .val (.int o), .val (.lst (ts.map D.int))]).bind fin = .ok (.v (.lst (ws.map D.int))) ∧ ws.length ≤ 21 := fun o => by
    walk_at "ev"
    by_cases c4 : o = 4
    · rw [decide_eq_true c4]
      walk_at "ev"
      exact ⟨[], rfl, Nat.zero_le _⟩
    · rw [decide_eq_false c4]
      walk_at "ev"
      exact ⟨ts, rfl, by omega⟩
  by_cases hw : w = "even" ∨ w = "lack"
  · rw [decide_eq_true hw]
    walk_at "ev"
    by_cases c1 : cell / 7 % 9 = 1
    · rw [decide_eq_true c1]
      walk_at "ev"
      rw [if_pos (by omega)]
      walk_at "ev"
      exact ⟨ts ++ [1], by rw [List.map_append]; rfl, by rw [List.length_append, hts]; exact Nat.succ_le_succ hm⟩
    · rw [decide_eq_false c1]
      walk_at "ev"
      by_cases c2 : cell / 7 % 9 = 2
      · rw [decide_eq_true c2]
        walk_at "ev"
        exact ⟨ts.drop 1, by rw [slice_from (by decide), List.map_drop]; rfl, by rw [List.length_drop]; omega⟩
      · rw [decide_eq_false c2]
        walk_at "ev"
        by_cases c3 : cell / 7 % 9 = 3
        · rw [decide_eq_true c3]
          walk_at "ev"
          by_cases c4 : 0 < (m : Int)
          · obtain ⟨z, _, ez⟩ := pickL (f := D.int) (l := [0, 10 ^ 6, 10 ^ 6 + 1, -1]) (modn (cell / 63) (show 0 < 4 by decide)).1 (modn (cell / 63) (show 0 < 4 by decide)).2
            rw [decide_eq_true c4]
            walk_at "ev"
            rw [oPow_i (by decide)]
            walk_at "ev"
            rw [oPow_i (by decide)]
            walk_at "ev"
            rw [show oIx (.lst [.int 0, .int (10 ^ 6), .int (10 ^ 6 + 1), .int (-1)]) (.int (cell / 63 % 4)) = .ok (.int z) from ez]
            walk_at "ev"
            rw [slice_to (by omega), ← List.map_take]
            walk_at "ev"
            rw [if_pos (by rw [List.length_take]; omega)]
            walk_at "ev"
            exact ⟨ts.take ((m : Int) - 1).toNat ++ [z], by rw [List.map_append]; rfl, by rw [List.length_append, List.length_take]; exact Nat.le_trans (Nat.add_le_add_right (Nat.min_le_right _ _) 1) (by rw [hts]; exact Nat.succ_le_succ hm)⟩
          · rw [decide_eq_false c4]
            have l2 := last (cell / 7 % 9)
            revert l2
            walk_at "ev"
            exact id
        · rw [decide_eq_false c3]
          have l2 := last (cell / 7 % 9)
          revert l2
          walk_at "ev"
          exact id
  · rw [decide_eq_false hw]
    obtain ⟨z, hz, ez⟩ := pickL (f := fun ws : List Int => D.lst (ws.map D.int)) (l := [[], [], [], ts]) (modn (cell / 7 % 9) (show 0 < 4 by decide)).1 (modn (cell / 7 % 9) (show 0 < 4 by decide)).2
    walk_at "ev"
    rw [show oIx (D.lst [D.lst [], D.lst [], D.lst [], D.lst (List.map D.int ts)]) (D.int (cell / 7 % 9 % 4)) = _ from ez]
    walk_at "ev"
    refine ⟨z, rfl, ?_⟩
    simp only [List.mem_cons, List.not_mem_nil, or_false] at hz
    rcases hz with rfl | rfl | rfl | rfl
    · exact Nat.zero_le _
    · exact Nat.zero_le _
    · exact Nat.zero_le _
    · rw [hts]; exact Nat.le_succ_of_le hm

theorem comp_flt {α : Type} {u : α → D} {t : Tv} {f : Ev} {ρ : Rho} {p : α → Bool} : ∀ {l : List α}, (∀ a ∈ l, t (ρ ++ [.val (u a)]) = .ok (p a) ∧ f (ρ ++ [.val (u a)]) = .ok (u a)) → compD t f ρ (l.map u) = .ok ((l.filter p).map u)
  | [], _ => rfl
  | a :: l, h => by
    have ⟨h1, h2⟩ := h a List.mem_cons_self
    have ih := comp_flt (u := u) (t := t) (f := f) (ρ := ρ) (p := p) fun x hx => h x (List.mem_cons_of_mem _ hx)
    rw [List.map_cons, compD, h1]
    cases z : p a with
    | true => rw [List.filter_cons_of_pos z]; simp only [noErr, Res.bind, if_true, h2, ih]; rfl
    | false => rw [List.filter_cons_of_neg (by rw [z]; decide)]; simp only [noErr, Res.bind, ih]; rfl
theorem compF_flt {α : Type} {u : α → D} {t : Tv} {f : Ev} {ρ : Rho} {p : α → Bool} {l : List α} (hl : l.length ≤ 16777215) (h : ∀ a ∈ l, t (ρ ++ [.val (u a)]) = .ok (p a) ∧ f (ρ ++ [.val (u a)]) = .ok (u a)) : compF t f ρ (l.map u) = .ok ((l.filter p).map u) := by
  unfold compF; rw [if_pos (by rw [List.length_map]; exact hl), comp_flt h]
theorem clm_pos : ∀ {n : Nat} {d : D}, IsC n d → 1 ≤ (clm n d).length
  | 0, _, h => h.elim
  | n + 1, d, h => by
    rcases h with ⟨c, rfl⟩ | ⟨w, ws, ks, rfl, hw, k0, k1, w1, hy, hk⟩
    · exact Nat.le_refl _
    · show 1 ≤ (ks.flatMap (clm n)).length
      cases ks with
      | nil => cases k0
      | cons k r => exact Nat.le_trans (clm_pos (hk k List.mem_cons_self)) (len_k (n := n) List.mem_cons_self)
theorem fm_ge : ∀ {ks : List D}, (∀ k ∈ ks, Gd k) → ks.length ≤ (ks.flatMap (clm 8)).length
  | [], _ => Nat.le_refl _
  | k :: r, h => by
    rw [List.flatMap_cons, List.length_append, List.length_cons, Nat.add_comm]
    exact Nat.add_le_add (clm_pos (h k List.mem_cons_self).1) (fm_ge fun x hx => h x (List.mem_cons_of_mem _ hx))
theorem fm_sum : ∀ (ks : List D), (ks.map fun k => ((clm 8 k).length : Int)).sum = ((ks.flatMap (clm 8)).length : Int)
  | [] => rfl
  | k :: r => by rw [List.map_cons, List.sum_cons, fm_sum r, List.flatMap_cons, List.length_append]; rfl
theorem in_wys {w : Str} : oNotIn (.str w) (.tup [.str "row", .str "back", .str "even", .str "lack", .str "part", .str "half"]) = .ok (.bl (!decide (w ∈ wys))) := by
  have e : ([D.str "row", .str "back", .str "even", .str "lack", .str "part", .str "half"].any fun e => eqD e (.str w)) = decide (w ∈ wys) := by
    show (wys.map D.str).any (fun e => eqD e (.str w)) = decide (w ∈ wys)
    rw [List.any_map]
    show wys.any (fun x => x == w) = _
    by_cases h : w ∈ wys
    · rw [decide_eq_true h, List.any_eq_true]; exact ⟨w, h, beq_self_eq_true w⟩
    · rw [decide_eq_false h, List.any_eq_false]; exact fun x hx z => h (eq_of_beq z ▸ hx)
  show (if depS [D.str "row", .str "back", .str "even", .str "lack", .str "part", .str "half"] ≤ 50 then Res.ok (D.bl (!([D.str "row", .str "back", .str "even", .str "lack", .str "part", .str "half"].any fun e => eqD e (.str w)))) else .no) = _
  rw [if_pos (by decide), e]
theorem ent_at {c : D} : oIx (ent c) (.int 0) = .ok c ∧ oIx (ent c) (.int 1) = .ok (.int ((clm 8 c).length : Int)) ∧ oIx (ent c) (.int 2) = .ok (.int (dpt 8 c)) := ⟨rfl, rfl, rfl⟩
/-- the three rows of a pile, whatever stands ahead -/
theorem ent_comp {ks : List D} (k1 : ks.length ≤ 80) (j : Nat) (ρ : Rho) (hj : ρ.length = j) :
    compF tTrue (eOp oIx (eVar j) (eC (.int 0))) ρ (ks.map ent) = .ok (ks.map fun k => k) ∧ compF tTrue (eOp oIx (eVar j) (eC (.int 1))) ρ (ks.map ent) = .ok ((ks.map fun k => ((clm 8 k).length : Int)).map D.int) ∧
    compF tTrue (eOp oIx (eVar j) (eC (.int 2))) ρ (ks.map ent) = .ok (ks.map fun k => .int (dpt 8 k)) := by
  have g : ∀ k : D, eVar j (ρ ++ [.val (ent k)]) = .ok (ent k) := fun k => by
    rw [eVar_at, List.getElem?_append_right (Nat.le_of_eq hj), hj, Nat.sub_self]; rfl
  have h : ∀ (k : D) (i : Int), eOp oIx (eVar j) (eC (.int i)) (ρ ++ [.val (ent k)]) = oIx (ent k) (.int i) := fun k i => by rw [eOp_at, g]; rfl
  refine ⟨compF_of (u := ent) (by omega) fun k _ => h k 0, ?_, compF_of (u := ent) (by omega) fun k _ => h k 2⟩
  rw [List.map_map]
  exact compF_of (u := ent) (by omega) fun k _ => h k 1

theorem f_due {w : Str} {ws : List Int} {ks : List D} (l1 : ws.length ≤ 100) (k1 : ks.length ≤ 80) (hk : ∀ k ∈ ks, Gd k) : m_law_due [.str w, .lst (ws.map D.int), .lst (ks.map ent)] = .ok (.v (duD w ws ks)) := by
  have fg := fm_ge hk
  have nn : oNe (.lst ((ws.filter fun x => decide (x < 1) || decide (10 ^ 6 < x)).map D.int)) (.lst []) = .ok (.bl (!decide (((ws.filter fun x => decide (x < 1) || decide (10 ^ 6 < x)).map D.int).length = 0))) := (eq_nil fun d hd => by
    obtain ⟨i, _, rfl⟩ := List.mem_map.mp hd; exact .inl ⟨i, rfl⟩).2
  have rest : ∀ due : Nat, due = (if w = "even" ∨ w = "lack" then ks.length else 0) → (b_law_due_6 [.val (.str w), .val (.lst (ws.map D.int)), .val (.lst (ks.map ent)), .val (.int due)]).bind fin = .ok (.v (
      open Classical in if wOK w ws ks.length then if 0 < ks.length ∧ (ks.flatMap (clm 8)).length ≤ 12 ∧ mx0 (ks.map (dpt 8)) ≤ 7 then .tup [.str w, .tup (ws.map D.int), .tup ks] else .str "many" else .str "weights")) := fun due hdue => by
    obtain ⟨e0, e1, e2⟩ := ent_comp k1 4 [.val (.str w), .val (.lst (ws.map D.int)), .val (.lst (ks.map ent)), .val (.int due)] rfl
    have ef : compF (tOrB (tVal (eOp oLt (eVar 4) (eC (.int 1)))) (tVal (eOp oGt (eVar 4) (eOp oPow (eC (.int 10)) (eC (.int 6)))))) (eVar 4) [.val (.str w), .val (.lst (ws.map D.int)), .val (.lst (ks.map ent)), .val (.int due)] (ws.map D.int) = .ok ((ws.filter fun x => decide (x < 1) || decide (10 ^ 6 < x)).map D.int) := compF_flt (by omega) fun x _ => ⟨by
      walk_at "ev"
      by_cases c : x < 1
      · rw [decide_eq_true c]; walk_at "ev"
      · rw [decide_eq_false c]; walk_at "ev"; rw [oPow_i (by decide)]; walk_at "ev", by walk_at "ev"⟩
    have ff : (ws.filter fun x => decide (x < 1) || decide (10 ^ 6 < x)).length = 0 ↔ ∀ x ∈ ws, 1 ≤ x ∧ x ≤ 10 ^ 6 := by
      rw [List.length_eq_zero_iff, List.filter_eq_nil_iff]
      refine ⟨fun h x hx => ?_, fun h x hx z => ?_⟩
      · have := h x hx
        rw [Bool.or_eq_true, decide_eq_true_eq, decide_eq_true_eq] at this
        exact ⟨Int.not_lt.mp fun z => this (.inl z), Int.not_lt.mp fun z => this (.inr z)⟩
      · rw [Bool.or_eq_true, decide_eq_true_eq, decide_eq_true_eq] at z
        rcases z with z | z
        · exact Int.not_le.mpr z (h x hx).1
        · exact Int.not_le.mpr z (h x hx).2
    have wk : wOK w ws ks.length ↔ ws.length = due ∧ (ws.filter fun x => decide (x < 1) || decide (10 ^ 6 < x)).length = 0 := by
      rw [ff, hdue]
      unfold wOK
      by_cases hw : w = "even" ∨ w = "lack"
      · rw [if_pos hw]
        exact ⟨fun h => h.elim (fun h => h.2) (fun h => absurd hw h.1), fun h => .inl ⟨hw, h⟩⟩
      · rw [if_neg hw]
        exact ⟨fun h => h.elim (fun h => absurd h.1 hw) (fun h => by rw [h.2]; exact ⟨rfl, fun x hx => by cases hx⟩), fun h => .inr ⟨hw, List.length_eq_zero_iff.mp h.1⟩⟩
    walk_at "ev"
    by_cases c1 : ws.length = due
    · rw [decide_eq_true (show (ws.length : Int) = (due : Int) by rw [c1])]
      walk_at "ev"
      rw [ef]
      walk_at "ev"
      rw [nn]
      walk_at "ev"
      by_cases c2 : (ws.filter fun x => decide (x < 1) || decide (10 ^ 6 < x)).length = 0
      · rw [decide_eq_true c2, if_pos (wk.mpr ⟨c1, c2⟩)]
        walk_at "ev"
        by_cases c3 : ks.length = 0
        · rw [if_neg (fun z => by rw [c3] at z; exact Nat.lt_irrefl _ z.1), decide_eq_true (show (ks.length : Int) = 0 by rw [c3]; rfl)]
          walk_at "ev"
        · have k0 : 0 < ks.length := Nat.pos_of_ne_zero c3
          rw [decide_eq_false (show ¬ ((ks.length : Int) = 0) by omega)]
          walk_at "ev"
          by_cases c4 : (12 : Int) < ks.length
          · rw [if_neg (fun z => by omega), decide_eq_true c4]
            walk_at "ev"
          · rw [decide_eq_false c4]
            walk_at "ev"
            rw [e1]
            walk_at "ev"
            rw [fm_sum]
            by_cases c5 : (12 : Int) < (ks.flatMap (clm 8)).length
            · rw [if_neg (fun z => by omega), decide_eq_true c5]
              walk_at "ev"
            · rw [decide_eq_false c5]
              walk_at "ev"
              rw [e2]
              walk_at "ev"
              rw [bMaxL_map k0]
              walk_at "ev"
              by_cases c6 : 8 < 1 + mx0 (ks.map (dpt 8))
              · rw [if_neg (fun z => by omega), decide_eq_true c6]
                walk_at "ev"
              · rw [if_pos ⟨k0, by omega, by omega⟩, decide_eq_false c6]
                walk_at "ev"
                rw [e0, List.map_id']
                walk_at "ev"
      · rw [decide_eq_false c2, if_neg (fun z => c2 (wk.mp z).2)]
        walk_at "ev"
    · rw [decide_eq_false (show ¬ ((ws.length : Int) = (due : Int)) by omega), if_neg (fun z => c1 (wk.mp z).1)]
      walk_at "ev"
  unfold m_law_due duD
  walk_at "ev"
  rw [in_wys]
  by_cases c1 : w ∈ wys
  · rw [if_pos c1, decide_eq_true c1]
    walk_at "ev"
    rw [in_wt]
    by_cases c2 : w = "even" ∨ w = "lack"
    · rw [decide_eq_true c2]
      have r := rest ks.length (by rw [if_pos c2])
      revert r
      walk_at "ev"
      exact id
    · rw [decide_eq_false c2]
      have r := rest 0 (by rw [if_neg c2])
      revert r
      walk_at "ev"
      exact id
  · rw [if_neg c1, decide_eq_false c1]
    walk_at "ev"

theorem sLent_ok {i fo : Nat} {a b : Fv} {call : Ev} {cmp : Tv} {rest : Sv} {ρ : Rho} {ds es : List D} {d : D} (h : i < ρ.length ∧ fo < ρ.length ∧ i ≠ fo) (qa : a ρ = .ok ds) (qb : b ρ = .ok es) (l : ds.length ≤ 1000 ∧ es.length ≤ 1000)
    (qc : call (ρ.set i (.val (.lst [.lst ds, .lst es]))) = .ok d) (nl : noL d = true) (qt : cmp ((ρ.set i (.val (.lst [.lst ds, .lst es]))).set fo (.val d)) = .ok false) : sLent i fo a b call cmp rest ρ = rest ((ρ.set i .un).set fo (.val d)) := by
  unfold sLent
  rw [if_pos h, qa]
  simp only [noErr, Res.bind]
  rw [qb]
  simp only [noErr, Res.bind]
  rw [if_pos l, qc]
  simp only [noErr, Res.bind]
  rw [if_pos nl, qt]
  simp only [noErr, Res.bind]
  rfl
theorem du_or {w : Str} {ws : List Int} {ks : List D} (l1 : ws.length ≤ 100) (k1 : ks.length ≤ 80) (hk : ∀ k ∈ ks, Gd k) : (∃ x, duD w ws ks = .str x) ∨ duD w ws ks = .tup [.str w, .tup (ws.map D.int), .tup ks] ∧ 0 < ks.length ∧ Gd (.tup [.str w, .tup (ws.map D.int), .tup ks]) ∧ clm 8 (.tup [.str w, .tup (ws.map D.int), .tup ks]) = ks.flatMap (clm 8) ∧ dpt 8 (.tup [.str w, .tup (ws.map D.int), .tup ks]) = 1 + mx0 (ks.map (dpt 8)) := by
  unfold duD
  by_cases c1 : w ∈ wys
  · rw [if_pos c1]
    by_cases c2 : wOK w ws ks.length
    · rw [if_pos c2]
      by_cases c3 : 0 < ks.length ∧ (ks.flatMap (clm 8)).length ≤ 12 ∧ mx0 (ks.map (dpt 8)) ≤ 7
      · rw [if_pos c3]
        have ic : IsC 8 (.tup [.str w, .tup (ws.map D.int), .tup ks]) := .inr ⟨w, ws, ks, rfl, (wys_tab c1).2, c3.1, by omega, l1, ⟨c1, c2⟩, fun k h => isC_mono (m := 7) (isC_dpt (hk k h).1) (by
          have := le_mx0 (List.mem_map.mpr ⟨k, h, rfl⟩ : dpt 8 k ∈ ks.map (dpt 8))
          omega)⟩
        have e1 : clm 8 (.tup [.str w, .tup (ws.map D.int), .tup ks]) = ks.flatMap (clm 8) := (clm_mono ic (show 8 ≤ 9 by decide)).symm
        exact .inr ⟨rfl, c3.1, ⟨ic, by rw [e1]; exact c3.2.1⟩, e1, (dpt_mono ic (show 8 ≤ 9 by decide)).symm⟩
      · rw [if_neg c3]; exact .inl ⟨_, rfl⟩
    · rw [if_neg c2]; exact .inl ⟨_, rfl⟩
  · rw [if_neg c1]; exact .inl ⟨_, rfl⟩
theorem du_noL {w : Str} {ws : List Int} {ks : List D} (l1 : ws.length ≤ 100) (k1 : ks.length ≤ 80) (hk : ∀ k ∈ ks, Gd k) : noL (duD w ws ks) = true := by
  rcases du_or (w := w) l1 k1 hk with ⟨x, e⟩ | ⟨e, _, g, _⟩
  · rw [e]; rfl
  · rw [e]; exact isC_noL _ _ (isC_ok _ _ g.1)
theorem f_knot_at {cs : List D} {cell : Int} (hc : cs.length ≤ 20) (hg : ∀ c ∈ cs, Gd c) : ∃ (m : Nat) (w : Str) (ws : List Int), m ≤ cs.length ∧ ws.length ≤ 21 ∧
    m_law_knot [.lst (cs.map ent), .int cell] = .ok (.v (.tup [duD w ws (cs.drop (cs.length - m)), duD w ws (cs.drop (cs.length - m)), .lst ((cs.drop (cs.length - m)).map ent)])) := by
  obtain ⟨z, hz, ez⟩ := pickL (f := D.int) (l := [cell / 9 % 4, 1 + cell / 9 % 13, 1]) (modn (cell / 36) (show 0 < 3 by decide)).1 (modn (cell / 36) (show 0 < 3 by decide)).2
  have z0 : 0 ≤ z := by
    have a := (modn (cell / 9) (show (0 : Int) < 4 by decide)).1
    have b := (modn (cell / 9) (show (0 : Int) < 13 by decide)).1
    simp only [List.mem_cons, List.not_mem_nil, or_false] at hz
    rcases hz with rfl | rfl | rfl
    · exact a
    · omega
    · decide
  obtain ⟨y, _, ey⟩ := pickL (f := D.str) (l := ["", "Row", "rows", "boat"]) (modn (cell / 5) (show 0 < 4 by decide)).1 (modn (cell / 5) (show 0 < 4 by decide)).2
  obtain ⟨w, _, ew⟩ := pickL (f := D.str) (l := ["row", "back", "even", "lack", "part", "half", "even", "lack", y]) (modn (cell / 3) (show 0 < 9 by decide)).1 (modn (cell / 3) (show 0 < 9 by decide)).2
  obtain ⟨m, em⟩ : ∃ m : Nat, min z (cs.length : Int) = m := ⟨(min z (cs.length : Int)).toNat, by omega⟩
  have hm : m ≤ cs.length := by omega
  obtain ⟨ws, e1, l1⟩ := f_weights (w := w) (cell := cell / 72) (m := m) (by omega)
  generalize hks : cs.drop (cs.length - m) = ks
  have k1 : ks.length ≤ 20 := by rw [← hks, List.length_drop]; omega
  have hk : ∀ k ∈ ks, Gd k := fun k h => hg k (List.mem_of_mem_drop (hks ▸ h))
  have sl : sliceD (cs.map ent) (some ((cs.length : Int) - m)) none = ks.map ent := by
    rw [slice_from (by omega), show ((cs.length : Int) - m).toNat = cs.length - m by omega, ← List.map_drop, hks]
  refine ⟨m, w, ws, hm, l1, ?_⟩
  rw [hks]
  have kd := f_due (w := w) (ws := ws) (ks := ks) (by omega) (by omega) hk
  have tl : ∀ {wd kd : D}, (wd = .lst (ws.map D.int) ∨ wd = .tup (ws.map D.int)) → (kd = .lst ks ∨ kd = .tup ks) → m_law_told [.str w, wd, kd] = .ok (.v (duD w ws ks)) := fun h1 h2 => f_told_knot h1 h2 (by omega) (by omega) hk
  unfold m_law_knot
  walk_at "ev"
  rw [show oIx (D.lst [D.int (cell / 9 % 4), D.int (1 + cell / 9 % 13), D.int 1]) (D.int (cell / 36 % 3)) = _ from ez]
  walk_at "ev"
  rw [em]
  rw [show oIx (D.lst [D.str "", D.str "Row", D.str "rows", D.str "boat"]) (D.int (cell / 5 % 4)) = _ from ey]
  walk_at "ev"
  rw [show oIx (D.lst [D.str "row", D.str "back", D.str "even", D.str "lack", D.str "part", D.str "half", D.str "even", D.str "lack", D.str y]) (D.int (cell / 3 % 9)) = _ from ew]
  walk_at "ev"
  rw [sl, e1]
  walk_at "ev"
  rw [kd]
  walk_at "ev"
  rw [(ent_comp (ks := ks) (by omega) 11 _ rfl).1, List.map_id']
  walk_at "ev"
  by_cases c1 : cell % 2 = 1
  · rw [decide_eq_true c1]
    walk_at "ev"
    rw [tl (.inr rfl) (.inr rfl)]
    walk_at "ev"
  · rw [decide_eq_false c1]
    walk_at "ev"
    have dp : dep (.lst [.lst (ws.map D.int), .lst ks]) ≤ 50 := by
      have a : depS ks ≤ 17 := depS_ok fun k h => isC_ok _ _ (hk k h).1
      have b : depS (ws.map D.int) ≤ 0 := Nat.le_of_eq depS_ints
      simp only [dep, depS]
      omega
    refine (congrArg (fun r => Res.bind r fin) (sLent_ok (i := 9) (fo := 10) (ds := ws.map D.int) (es := ks) (d := duD w ws ks) ⟨?_, ?_, by decide⟩ ?_ ?_ ⟨by rw [List.length_map]; omega, by omega⟩ ?_ (du_noL (by omega) (by omega) hk) ?_)).trans ?_
    · simp only [List.length_cons, List.length_nil]; decide
    · simp only [List.length_cons, List.length_nil]; decide
    · walk_at "ev"
    · walk_at "ev"
    · walk_at "ev"
      rw [show oIx (.lst [.lst (ws.map D.int), .lst ks]) (.int 0) = .ok (.lst (ws.map D.int)) from rfl]
      walk_at "ev"
      rw [show oIx (.lst [.lst (ws.map D.int), .lst ks]) (.int 1) = .ok (.lst ks) from rfl]
      walk_at "ev"
      rw [tl (.inl rfl) (.inl rfl)]
      walk_at "ev"
    · walk_at "ev"
      rw [oNe_rfl dp]
      walk_at "ev"
    · walk_at "ev"

section
variable {i j1 j2 j3 : Nat} {call : Ev} {t1 t2 t3 : Tv} {sl : Fv} {v : Ev} {ρ : Rho} {d1 d2 d3 : D}
theorem sPile_1 (hc : call (ρ.map Sl.frz) = .ok (.tup [d1, d2, d3])) (h1 : t1 ((((ρ.map Sl.frz).set j1 (.val d1)).set j2 (.val d2)).set j3 (.val d3)) = .ok true) (h2 : t2 ((((ρ.map Sl.frz).set j1 (.val d1)).set j2 (.val d2)).set j3 (.val d3)) = .ok false) :
    sPile i j1 j2 j3 call t1 t2 t3 sl v ρ = .ok (.nx (((ρ.set j1 .un).set j2 .un).set j3 .un)) := by
  unfold sPile
  rw [hc]
  simp only [noErr, Res.bind]
  rw [h1]
  simp only [noErr, Res.bind, if_true]
  rw [h2]
  rfl
theorem sPile_2 {ds : List D} {e : D} (hc : call (ρ.map Sl.frz) = .ok (.tup [d1, d2, d3])) (h1 : t1 ((((ρ.map Sl.frz).set j1 (.val d1)).set j2 (.val d2)).set j3 (.val d3)) = .ok false) (h3 : t3 ((((ρ.map Sl.frz).set j1 (.val d1)).set j2 (.val d2)).set j3 (.val d3)) = .ok false)
    (hs : sl ((((ρ.map Sl.frz).set j1 (.val d1)).set j2 (.val d2)).set j3 (.val d3)) = .ok ds) (hl : noLs ds = true ∧ ds.length ≤ 1000 ∧ i < ρ.length) (hv : v (((((ρ.map Sl.frz).set j1 (.val d1)).set j2 (.val d2)).set j3 (.val d3)).set i .un) = .ok e) (he : noL e = true) :
    sPile i j1 j2 j3 call t1 t2 t3 sl v ρ = .ok (.nx ((((ρ.set j1 .un).set j2 .un).set j3 .un).set i (.own (ds ++ [e])))) := by
  unfold sPile
  rw [hc]
  simp only [noErr, Res.bind]
  rw [h1]
  simp only [noErr, Res.bind, Bool.false_eq_true, if_false]
  rw [h3]
  simp only [noErr, Res.bind, Bool.false_eq_true, if_false]
  rw [hs]
  simp only [noErr, Res.bind]
  rw [if_pos hl, hv]
  simp only [noErr, Res.bind]
  rw [if_pos he]
end
theorem ent_noL {c : D} (h : Gd c) : noL (ent c) = true := by
  unfold ent
  rw [noL, noLs, isC_noL _ _ (isC_ok _ _ h.1)]
  rfl
noncomputable def PlT (sc : D) (ρ : Rho) : Prop := ∃ (cs : List D) (a2 a3 a4 a5 a6 : Sl), ρ = [.val sc, .own (cs.map ent), a2, a3, a4, a5, a6] ∧ cs.length ≤ 14 ∧ ∀ c ∈ cs, Gd c
theorem gd_boat {c : Int} : Gd (.tup [.str "boat", .int c]) := ⟨.inl ⟨c, rfl⟩, by show 1 ≤ 12; decide⟩
theorem f_turn {sc : D} {cs : List D} {cell : Int} {a3 a4 a5 a6 : Sl} (hc : cs.length ≤ 14) (hg : ∀ c ∈ cs, Gd c) : ∃ ρ2, b_law_3 [.val sc, .own (cs.map ent), .val (.int cell), a3, a4, a5, a6] = .ok (.nx ρ2) ∧ PlT sc ρ2 := by
  have knot : ∃ ρ2, sPile 1 4 5 6 (eCall m_law_knot (aCons (eVar 1) (aCons (eOp oDiv (eVar 2) (eC (.int 3))) aNil))) (tVal (eIsT "str" (eVar 5))) (tOrB (tNotB (tVal (eIsT "str" (eVar 4)))) (tVal (eOp oNe (eVar 4) (eVar 5)))) (tNotB (tVal (eCall (m_law_alike 24) (aCons (eVar 4) (aCons (eVar 5) aNil))))) (fSl (eVar 1) oN (oS (eOp oSub (eB bLen (aCons (eVar 1) aNil)) (eB bLen (aCons (eVar 6) aNil))))) (eTup (aCons (eVar 4) (aCons (eB bSum (aCons (eF (fComp (iSeq (eVar 6)) tTrue (eOp oIx (eVar 7) (eC (.int 1))))) aNil)) (aCons (eOp oAdd (eC (.int 1)) (eB bMaxL (aCons (eF (fComp (iSeq (eVar 6)) tTrue (eOp oIx (eVar 7) (eC (.int 2))))) aNil))) aNil)))) [.val sc, .own (cs.map ent), .val (.int cell), a3, a4, a5, a6] = .ok (.nx ρ2) ∧ PlT sc ρ2 := by
    obtain ⟨m, w, ws, hm, l1, e⟩ := f_knot_at (cell := cell / 3) (Nat.le_trans hc (by decide)) hg
    generalize hks : cs.drop (cs.length - m) = ks at e
    have lk : ks.length = m := by rw [← hks, List.length_drop]; omega
    have hk : ∀ k ∈ ks, Gd k := fun k h => hg k (List.mem_of_mem_drop (hks ▸ h))
    have call : eCall m_law_knot (aCons (eVar 1) (aCons (eOp oDiv (eVar 2) (eC (.int 3))) aNil)) ([Sl.val sc, .own (cs.map ent), .val (.int cell), a3, a4, a5, a6].map Sl.frz) = .ok (.tup [duD w ws ks, duD w ws ks, .lst (ks.map ent)]) := by
      walk_at "ev"
      rw [e]
      walk_at "ev"
    rcases du_or (w := w) (ws := ws) (ks := ks) (by omega) (by omega) hk with ⟨x, ex⟩ | ⟨ex, k0, gd, ec, ed⟩
    · rw [ex] at call
      refine ⟨_, sPile_1 call ?_ ?_, cs, _, _, _, _, _, rfl, hc, hg⟩
      · walk_at "ev"
      · walk_at "ev"
    · rw [ex] at call
      refine ⟨_, sPile_2 (ds := (cs.take (cs.length - m)).map ent) (e := ent (.tup [.str w, .tup (ws.map D.int), .tup ks])) call ?_ ?_ ?_ ⟨?_, ?_, ?_⟩ ?_ (ent_noL gd), cs.take (cs.length - m) ++ [.tup [.str w, .tup (ws.map D.int), .tup ks]], _, _, _, _, _, by rw [List.map_append]; rfl, ?_, fun c h => ?_⟩
      · walk_at "ev"
      · walk_at "ev"
        rw [f_law_alike 24 _ (dOK_mono (isC_ok _ _ gd.1) (by decide))]
        walk_at "ev"
      · walk_at "ev"
        rw [slice_to (by omega), show ((cs.length : Int) - ks.length).toNat = cs.length - m by omega, List.map_take]
      · exact noLs_of fun d hd => by
          obtain ⟨c, hc', rfl⟩ := List.mem_map.mp hd
          exact ent_noL (hg c (List.mem_of_mem_take hc'))
      · rw [List.length_map, List.length_take]; omega
      · simp only [List.length_cons, List.length_nil]; decide
      · walk_at "ev"
        rw [(ent_comp (ks := ks) (by omega) 7 _ rfl).2.1]
        walk_at "ev"
        rw [(ent_comp (ks := ks) (by omega) 7 _ rfl).2.2]
        walk_at "ev"
        rw [fm_sum, bMaxL_map k0]
        walk_at "ev"
        unfold ent
        rw [ec, ed]
      · rw [List.length_append, List.length_take]; simp only [List.length_cons, List.length_nil]; omega
      · rcases List.mem_append.mp h with h | h
        · exact hg c (List.mem_of_mem_take h)
        · rw [List.mem_singleton.mp h]; exact gd
  walk_at "ev"
  by_cases c1 : cell % 3 < 2
  · rw [decide_eq_true c1]
    walk_at "ev"
    by_cases c2 : (cs.length : Int) < 14
    · rw [decide_eq_true c2]
      obtain ⟨z, _, ez⟩ := pickL (f := D.int) (l := [cell / 3 % 15 - 2, 10 ^ 9 - 2 + cell / 3 % 5]) (m2 (cell / 45)).1 (m2 (cell / 45)).2
      walk_at "ev"
      rw [show oIx (D.lst [D.int (cell / 3 % 15 - 2), D.int (10 ^ 9 - 2 + cell / 3 % 5)]) (D.int (cell / 45 % 2)) = _ from ez]
      walk_at "ev"
      by_cases b1 : z < 0
      · rw [f_told_noboat (.inl b1)]
        walk_at "ev"
        rw [decide_eq_true b1]
        walk_at "ev"
        exact ⟨_, rfl, cs, _, _, _, _, _, rfl, hc, hg⟩
      · by_cases b2 : 10 ^ 9 < z
        · rw [f_told_noboat (.inr b2)]
          walk_at "ev"
          rw [decide_eq_false b1]
          walk_at "ev"
          rw [decide_eq_true b2]
          walk_at "ev"
          exact ⟨_, rfl, cs, _, _, _, _, _, rfl, hc, hg⟩
        · rw [f_told_boat (Int.not_lt.mp b1) (Int.not_lt.mp b2)]
          walk_at "ev"
          rw [decide_eq_false b1]
          walk_at "ev"
          rw [decide_eq_false b2]
          walk_at "ev"
          rw [f_law_alike 24 _ (dOK_mono (isC_ok _ _ (gd_boat (c := z)).1) (by decide))]
          walk_at "ev"
          rw [if_pos (by omega)]
          refine ⟨_, rfl, cs ++ [.tup [.str "boat", .int z]], _, _, _, _, _, by rw [List.map_append]; rfl, by rw [List.length_append]; simp only [List.length_cons, List.length_nil]; omega, fun c h => ?_⟩
          rcases List.mem_append.mp h with h | h
          · exact hg c h
          · rw [List.mem_singleton.mp h]; exact gd_boat
    · rw [decide_eq_false c2]
      walk_at "ev"
      exact knot
  · rw [decide_eq_false c1]
    walk_at "ev"
    exact knot
theorem law_true : ∀ ns : List Int, ns.length ≤ 63 → m_law [.lst (ns.map D.int)] = .ok (.v (.bl true)) := by
  intro ns hn
  unfold m_law
  walk_at "ev"
  rw [slice_to (by decide), ← List.map_take]
  walk_at "ev"
  rw [if_pos (by rw [List.length_take]; omega)]
  walk_at "ev"
  refine loop_go (Q := fun r => r.bind fin = .ok (.v (.bl true))) (PlT (.lst (ns.map D.int))) ⟨[], _, _, _, _, _, rfl, by decide, fun c h => by cases h⟩ ?_ ?_
  · rintro e ρ he ⟨cs, a2, a3, a4, a5, a6, rfl, hc, hg⟩
    obtain ⟨cell, _, rfl⟩ := List.mem_map.mp (show e ∈ (0 :: ns.take 60).map D.int from he)
    exact f_turn hc hg
  · rintro ρ' ⟨cs, a2, a3, a4, a5, a6, rfl, hc, hg⟩
    walk_at "ev"


end Lw

namespace Lw
open PySem PySem.Spec PyProof.Rows L2 L3
noncomputable def top (i : Nat) : Stmt := PySem.Challenge.pw_catchhall_k23_boats_and_knots.main.body.getD i (.Pass ⟨0, 0, 0, 0⟩)
noncomputable abbrev s_refuse_way : Stmt := top 16
theorem sc_refuse_way : FnScope ["way"] ["way"] (defScope s_refuse_way) := ⟨rfl, rfl, rfl, by decide +kernel, rfl, by decide +kernel, by decide +kernel⟩
noncomputable abbrev s_refuse_weights : Stmt := top 17
theorem sc_refuse_weights : FnScope ["way", "weights", "many", "due", "weight"] ["way", "weights", "many"] (defScope s_refuse_weights) := ⟨rfl, rfl, rfl, by decide +kernel, rfl, by decide +kernel, by decide +kernel⟩
noncomputable abbrev s_boat : Stmt := top 22
theorem sc_boat : FnScope ["claim"] ["claim"] (defScope s_boat) := ⟨rfl, rfl, rfl, by decide +kernel, rfl, by decide +kernel, by decide +kernel⟩
noncomputable abbrev s_knot : Stmt := top 23
theorem sc_knot : FnScope ["way", "weights", "kids", "custom"] ["way", "weights", "kids"] (defScope s_knot) := ⟨rfl, rfl, rfl, by decide +kernel, rfl, by decide +kernel, by decide +kernel⟩
noncomputable abbrev s_is_boat : Stmt := top 24
theorem sc_is_boat : FnScope ["custom"] ["custom"] (defScope s_is_boat) := ⟨rfl, rfl, rfl, by decide +kernel, rfl, by decide +kernel, by decide +kernel⟩
noncomputable abbrev s_kids_of : Stmt := top 25
theorem sc_kids_of : FnScope ["custom"] ["custom"] (defScope s_kids_of) := ⟨rfl, rfl, rfl, by decide +kernel, rfl, by decide +kernel, by decide +kernel⟩
noncomputable abbrev s_claims_of : Stmt := top 26
theorem sc_claims_of : FnScope ["custom", "claims", "kid"] ["custom"] (defScope s_claims_of) := ⟨rfl, rfl, rfl, by decide +kernel, rfl, by decide +kernel, by decide +kernel⟩
noncomputable abbrev s_deep_of : Stmt := top 27
theorem sc_deep_of : FnScope ["custom"] ["custom"] (defScope s_deep_of) := ⟨rfl, rfl, rfl, by decide +kernel, rfl, by decide +kernel, by decide +kernel⟩
noncomputable abbrev s_law_alike : Stmt := top 30
theorem sc_law_alike : FnScope ["found", "due", "k"] ["found", "due"] (defScope s_law_alike) := ⟨rfl, rfl, rfl, by decide +kernel, rfl, by decide +kernel, by decide +kernel⟩
noncomputable abbrev s_law_told : Stmt := top 31
theorem sc_law_told : FnScope ["word", "weights", "kids", "found", "right", "e"] ["word", "weights", "kids"] (defScope s_law_told) := ⟨rfl, rfl, rfl, by decide +kernel, rfl, by decide +kernel, by decide +kernel⟩
noncomputable abbrev s_law_weights : Stmt := top 32
theorem sc_law_weights : FnScope ["word", "cell", "many", "odd", "told"] ["word", "cell", "many"] (defScope s_law_weights) := ⟨rfl, rfl, rfl, by decide +kernel, rfl, by decide +kernel, by decide +kernel⟩
noncomputable abbrev s_law_due : Stmt := top 33
theorem sc_law_due : FnScope ["word", "weights", "kids", "due"] ["word", "weights", "kids"] (defScope s_law_due) := ⟨rfl, rfl, rfl, by decide +kernel, rfl, by decide +kernel, by decide +kernel⟩
noncomputable abbrev s_law_knot : Stmt := top 34
theorem sc_law_knot : FnScope ["pile", "cell", "many", "words", "word", "kids", "weights", "due", "handed", "lists", "found"] ["pile", "cell"] (defScope s_law_knot) := ⟨rfl, rfl, rfl, by decide +kernel, rfl, by decide +kernel, by decide +kernel⟩
noncomputable abbrev s_law : Stmt := top 35
theorem sc_law : FnScope ["script", "pile", "cell", "claim", "found", "due", "kids"] ["script"] (defScope s_law) := ⟨rfl, rfl, rfl, by decide +kernel, rfl, by decide +kernel, by decide +kernel⟩
structure Bt (mg : Str → Option Value) : Prop where
  len : mg "len" = none
  tuple : mg "tuple" = none
  max : mg "max" = none
  isinstance : mg "isinstance" = none
  str : mg "str" = none
  range : mg "range" = none
  int : mg "int" = none
  bool : mg "bool" = none
  sum : mg "sum" = none
  min : mg "min" = none
  list : mg "list" = none
structure Kt (K : PySem.W.Frag) : Prop where
  bool : Kit K "bool"
  int : Kit K "int"
  str : Kit K "str"
  tuple : Kit K "tuple"
structure Ct (K : PySem.W.Frag) (mg : Str → Option Value) : Prop where
  BOAT : ∃ v u, mg "BOAT" = some u ∧ RelV v u ∧ IsD K (fun _ => none) v d_BOAT
  DEEPEST : ∃ v u, mg "DEEPEST" = some u ∧ RelV v u ∧ IsD K (fun _ => none) v d_DEEPEST
  MOST_BOATS : ∃ v u, mg "MOST_BOATS" = some u ∧ RelV v u ∧ IsD K (fun _ => none) v d_MOST_BOATS
  WEIGHTED : ∃ v u, mg "WEIGHTED" = some u ∧ RelV v u ∧ IsD K (fun _ => none) v d_WEIGHTED
  CONTRARY : ∃ a, IsTab K mg "CONTRARY" t_CONTRARY a
structure Rt (K : PySem.W.Frag) (mg : Str → Option Value) : Prop where
  BadClaim : ∃ C, Err K mg "BadClaim" C
  BadWay : ∃ C, Err K mg "BadWay" C
  BadWeights : ∃ C, Err K mg "BadWeights" C
  TooMany : ∃ C, Err K mg "TooMany" C
structure Et (K : PySem.W.Frag) (mg : Str → Option Value) : Prop where
  cat : ∀ c, tbT.contains c = true → Cat K mg "CatchError" c
  ek : EK K mg ancT ["TooMany", "BadWeights", "BadWay", "BadClaim", "ValueError", "Unlike", "Outside", "NoText", "NoFraction", "NoBoat", "BadLine", "BadCatch"]
theorem ct_mk {K : PySem.W.Frag} {h : Heap} {mg : Str → Option Value} {t0 t1 t2 t3 t4 : Tok} {pWEIGHTED0 : Addr} {o_pWEIGHTED0 : Option Addr} {n_pWEIGHTED0 : Nat} {s_pWEIGHTED0 : Array (Option Value)} {a_CONTRARY : Addr} (X : K.In h) (G : h.Ns mainGlobals mg) (n_BOAT : PySem.W.nsIn K mainGlobals "BOAT" = some (some (.str "boat" t0))) (n_DEEPEST : PySem.W.nsIn K mainGlobals "DEEPEST" = some (some (.int (8) t1))) (n_MOST_BOATS : PySem.W.nsIn K mainGlobals "MOST_BOATS" = some (some (.int (12) t2))) (n_WEIGHTED : PySem.W.nsIn K mainGlobals "WEIGHTED" = some (some (.ref pWEIGHTED0))) (pWEIGHTED0_l : K.lookup pWEIGHTED0 = some ⟨.type "tuple", o_pWEIGHTED0, .seq #[.str "even" t3, .str "lack" t4] n_pWEIGHTED0, s_pWEIGHTED0⟩) (n_CONTRARY : PySem.W.nsIn K mainGlobals "CONTRARY" = some (some (.ref a_CONTRARY))) (t_CONTRARY : PyProof.Rows.KTD.tabLook (PyProof.Rows.KTD.datLooks fun a => K.lookup a) (fun a => K.lookup a) a_CONTRARY (tabD Lw.t_CONTRARY) = true) : Ct K mg := ⟨⟨.str "boat", _, PySem.W.mg_of X G n_BOAT, ⟨_, rfl⟩, (.str _)⟩, ⟨.int (8), _, PySem.W.mg_of X G n_DEEPEST, ⟨_, rfl⟩, (.int _)⟩, ⟨.int (12), _, PySem.W.mg_of X G n_MOST_BOATS, ⟨_, rfl⟩, (.int _)⟩, ⟨.ref pWEIGHTED0, _, PySem.W.mg_of X G n_WEIGHTED, rfl, (.tup (.inr ⟨_, _, _, pWEIGHTED0_l, rfl, rfl, Nat.le_of_ble_eq_true rfl, (.cons (show RelV (.str "even") _ from ⟨_, rfl⟩) (.cons (show RelV (.str "lack") _ from ⟨_, rfl⟩) .nil))⟩) (.cons (.str _) (.cons (.str _) .nil)))⟩, ⟨a_CONTRARY, PySem.W.mg_of X G n_CONTRARY, fun h X => PyProof.Rows.KTD.text_of_look X t_CONTRARY⟩⟩
theorem rt_mk {K : PySem.W.Frag} {h : Heap} {mg : Str → Option Value} {C_BadClaim : Addr} {C_BadWay : Addr} {C_BadWeights : Addr} {C_TooMany : Addr} (X : K.In h) (G : h.Ns mainGlobals mg) (n_BadClaim : PySem.W.nsIn K mainGlobals "BadClaim" = some (some (.ref C_BadClaim))) (x_BadClaim : PySem.W.excIn K C_BadClaim [.type "ValueError", .type "Exception", .type "BaseException", .type "object"] "ValueError.__new__" = true) (n_BadWay : PySem.W.nsIn K mainGlobals "BadWay" = some (some (.ref C_BadWay))) (x_BadWay : PySem.W.excIn K C_BadWay [.type "ValueError", .type "Exception", .type "BaseException", .type "object"] "ValueError.__new__" = true) (n_BadWeights : PySem.W.nsIn K mainGlobals "BadWeights" = some (some (.ref C_BadWeights))) (x_BadWeights : PySem.W.excIn K C_BadWeights [.type "ValueError", .type "Exception", .type "BaseException", .type "object"] "ValueError.__new__" = true) (n_TooMany : PySem.W.nsIn K mainGlobals "TooMany" = some (some (.ref C_TooMany))) (x_TooMany : PySem.W.excIn K C_TooMany [.type "ValueError", .type "Exception", .type "BaseException", .type "object"] "ValueError.__new__" = true) : Rt K mg := ⟨err_mk X G n_BadClaim x_BadClaim PySem.F.excBase_ValueError, err_mk X G n_BadWay x_BadWay PySem.F.excBase_ValueError, err_mk X G n_BadWeights x_BadWeights PySem.F.excBase_ValueError, err_mk X G n_TooMany x_TooMany PySem.F.excBase_ValueError⟩
theorem et_mk {K : PySem.W.Frag} {h : Heap} {mg : Str → Option Value} {C_CatchError : Addr} {C_BadClaim : Addr} {C_BadWay : Addr} {C_BadWeights : Addr} {C_TooMany : Addr} {C_Unlike : Addr} {C_Outside : Addr} {C_NoText : Addr} {C_NoFraction : Addr} {C_NoBoat : Addr} {C_BadLine : Addr} {C_BadCatch : Addr} (X : K.In h) (G : h.Ns mainGlobals mg)
    (n_CatchError : PySem.W.nsIn K mainGlobals "CatchError" = some (some (.ref C_CatchError)))
    (n_BadClaim : PySem.W.nsIn K mainGlobals "BadClaim" = some (some (.ref C_BadClaim)))
    (n_BadWay : PySem.W.nsIn K mainGlobals "BadWay" = some (some (.ref C_BadWay)))
    (n_BadWeights : PySem.W.nsIn K mainGlobals "BadWeights" = some (some (.ref C_BadWeights)))
    (n_TooMany : PySem.W.nsIn K mainGlobals "TooMany" = some (some (.ref C_TooMany)))
    (n_Unlike : PySem.W.nsIn K mainGlobals "Unlike" = some (some (.ref C_Unlike)))
    (n_Outside : PySem.W.nsIn K mainGlobals "Outside" = some (some (.ref C_Outside)))
    (n_NoText : PySem.W.nsIn K mainGlobals "NoText" = some (some (.ref C_NoText)))
    (n_NoFraction : PySem.W.nsIn K mainGlobals "NoFraction" = some (some (.ref C_NoFraction)))
    (n_NoBoat : PySem.W.nsIn K mainGlobals "NoBoat" = some (some (.ref C_NoBoat)))
    (n_BadLine : PySem.W.nsIn K mainGlobals "BadLine" = some (some (.ref C_BadLine)))
    (n_BadCatch : PySem.W.nsIn K mainGlobals "BadCatch" = some (some (.ref C_BadCatch)))
    (z_ValueError : PySem.W.nsIn K mainGlobals "ValueError" = some none)
    (ce1 : PySem.W.typeIn K (.ref C_CatchError) = some (.type "type"))
    (ce2 : PySem.W.hasDictIn K C_CatchError = true)
    (ce3 : PySem.W.mroIn K C_CatchError (.type "BaseException") = some true)
    (g5 : PySem.W.specialIn K (.builtin "object.__class__") "__get__" = some (some (.builtin "getset_descriptor.__get__")))
    (g6 : PySem.W.takesIn K (.builtin "object.__class__") = some true)
    (e1_BadClaim : PySem.W.hasDictIn K C_BadClaim = true)
    (e2_BadClaim : PySem.W.findIn K (.ref C_BadClaim) "__getattribute__" = some (some (.builtin "BaseException.__getattribute__")))
    (e3_BadClaim : PySem.W.findIn K (.ref C_BadClaim) "__getattr__" = some none)
    (e4_BadClaim : PySem.W.findIn K (.ref C_BadClaim) "__class__" = some (some (.builtin "object.__class__")))
    (e7_BadClaim : PySem.W.mroIn K C_BadClaim (.type "object") = some true)
    (e8_BadClaim : PySem.W.mroIn K C_BadClaim (.type "BaseException") = some true)
    (em_BadClaim : PySem.W.mroIn K C_BadClaim (.ref C_CatchError) = some true)
    (k_BadClaim_TooMany : PySem.W.kitOne K (.ref C_BadClaim) (.ref C_TooMany) = some false)
    (k_BadClaim_BadWeights : PySem.W.kitOne K (.ref C_BadClaim) (.ref C_BadWeights) = some false)
    (k_BadClaim_BadWay : PySem.W.kitOne K (.ref C_BadClaim) (.ref C_BadWay) = some false)
    (k_BadClaim_BadClaim : PySem.W.kitOne K (.ref C_BadClaim) (.ref C_BadClaim) = some true)
    (k_BadClaim_ValueError : PySem.W.kitOne K (.ref C_BadClaim) (.type "ValueError") = some true)
    (k_BadClaim_Unlike : PySem.W.kitOne K (.ref C_BadClaim) (.ref C_Unlike) = some false)
    (k_BadClaim_Outside : PySem.W.kitOne K (.ref C_BadClaim) (.ref C_Outside) = some false)
    (k_BadClaim_NoText : PySem.W.kitOne K (.ref C_BadClaim) (.ref C_NoText) = some false)
    (k_BadClaim_NoFraction : PySem.W.kitOne K (.ref C_BadClaim) (.ref C_NoFraction) = some false)
    (k_BadClaim_NoBoat : PySem.W.kitOne K (.ref C_BadClaim) (.ref C_NoBoat) = some false)
    (k_BadClaim_BadLine : PySem.W.kitOne K (.ref C_BadClaim) (.ref C_BadLine) = some false)
    (k_BadClaim_BadCatch : PySem.W.kitOne K (.ref C_BadClaim) (.ref C_BadCatch) = some false)
    (e1_BadWay : PySem.W.hasDictIn K C_BadWay = true)
    (e2_BadWay : PySem.W.findIn K (.ref C_BadWay) "__getattribute__" = some (some (.builtin "BaseException.__getattribute__")))
    (e3_BadWay : PySem.W.findIn K (.ref C_BadWay) "__getattr__" = some none)
    (e4_BadWay : PySem.W.findIn K (.ref C_BadWay) "__class__" = some (some (.builtin "object.__class__")))
    (e7_BadWay : PySem.W.mroIn K C_BadWay (.type "object") = some true)
    (e8_BadWay : PySem.W.mroIn K C_BadWay (.type "BaseException") = some true)
    (em_BadWay : PySem.W.mroIn K C_BadWay (.ref C_CatchError) = some true)
    (k_BadWay_TooMany : PySem.W.kitOne K (.ref C_BadWay) (.ref C_TooMany) = some false)
    (k_BadWay_BadWeights : PySem.W.kitOne K (.ref C_BadWay) (.ref C_BadWeights) = some false)
    (k_BadWay_BadWay : PySem.W.kitOne K (.ref C_BadWay) (.ref C_BadWay) = some true)
    (k_BadWay_BadClaim : PySem.W.kitOne K (.ref C_BadWay) (.ref C_BadClaim) = some false)
    (k_BadWay_ValueError : PySem.W.kitOne K (.ref C_BadWay) (.type "ValueError") = some true)
    (k_BadWay_Unlike : PySem.W.kitOne K (.ref C_BadWay) (.ref C_Unlike) = some false)
    (k_BadWay_Outside : PySem.W.kitOne K (.ref C_BadWay) (.ref C_Outside) = some false)
    (k_BadWay_NoText : PySem.W.kitOne K (.ref C_BadWay) (.ref C_NoText) = some false)
    (k_BadWay_NoFraction : PySem.W.kitOne K (.ref C_BadWay) (.ref C_NoFraction) = some false)
    (k_BadWay_NoBoat : PySem.W.kitOne K (.ref C_BadWay) (.ref C_NoBoat) = some false)
    (k_BadWay_BadLine : PySem.W.kitOne K (.ref C_BadWay) (.ref C_BadLine) = some false)
    (k_BadWay_BadCatch : PySem.W.kitOne K (.ref C_BadWay) (.ref C_BadCatch) = some false)
    (e1_BadWeights : PySem.W.hasDictIn K C_BadWeights = true)
    (e2_BadWeights : PySem.W.findIn K (.ref C_BadWeights) "__getattribute__" = some (some (.builtin "BaseException.__getattribute__")))
    (e3_BadWeights : PySem.W.findIn K (.ref C_BadWeights) "__getattr__" = some none)
    (e4_BadWeights : PySem.W.findIn K (.ref C_BadWeights) "__class__" = some (some (.builtin "object.__class__")))
    (e7_BadWeights : PySem.W.mroIn K C_BadWeights (.type "object") = some true)
    (e8_BadWeights : PySem.W.mroIn K C_BadWeights (.type "BaseException") = some true)
    (em_BadWeights : PySem.W.mroIn K C_BadWeights (.ref C_CatchError) = some true)
    (k_BadWeights_TooMany : PySem.W.kitOne K (.ref C_BadWeights) (.ref C_TooMany) = some false)
    (k_BadWeights_BadWeights : PySem.W.kitOne K (.ref C_BadWeights) (.ref C_BadWeights) = some true)
    (k_BadWeights_BadWay : PySem.W.kitOne K (.ref C_BadWeights) (.ref C_BadWay) = some false)
    (k_BadWeights_BadClaim : PySem.W.kitOne K (.ref C_BadWeights) (.ref C_BadClaim) = some false)
    (k_BadWeights_ValueError : PySem.W.kitOne K (.ref C_BadWeights) (.type "ValueError") = some true)
    (k_BadWeights_Unlike : PySem.W.kitOne K (.ref C_BadWeights) (.ref C_Unlike) = some false)
    (k_BadWeights_Outside : PySem.W.kitOne K (.ref C_BadWeights) (.ref C_Outside) = some false)
    (k_BadWeights_NoText : PySem.W.kitOne K (.ref C_BadWeights) (.ref C_NoText) = some false)
    (k_BadWeights_NoFraction : PySem.W.kitOne K (.ref C_BadWeights) (.ref C_NoFraction) = some false)
    (k_BadWeights_NoBoat : PySem.W.kitOne K (.ref C_BadWeights) (.ref C_NoBoat) = some false)
    (k_BadWeights_BadLine : PySem.W.kitOne K (.ref C_BadWeights) (.ref C_BadLine) = some false)
    (k_BadWeights_BadCatch : PySem.W.kitOne K (.ref C_BadWeights) (.ref C_BadCatch) = some false)
    (e1_TooMany : PySem.W.hasDictIn K C_TooMany = true)
    (e2_TooMany : PySem.W.findIn K (.ref C_TooMany) "__getattribute__" = some (some (.builtin "BaseException.__getattribute__")))
    (e3_TooMany : PySem.W.findIn K (.ref C_TooMany) "__getattr__" = some none)
    (e4_TooMany : PySem.W.findIn K (.ref C_TooMany) "__class__" = some (some (.builtin "object.__class__")))
    (e7_TooMany : PySem.W.mroIn K C_TooMany (.type "object") = some true)
    (e8_TooMany : PySem.W.mroIn K C_TooMany (.type "BaseException") = some true)
    (em_TooMany : PySem.W.mroIn K C_TooMany (.ref C_CatchError) = some true)
    (k_TooMany_TooMany : PySem.W.kitOne K (.ref C_TooMany) (.ref C_TooMany) = some true)
    (k_TooMany_BadWeights : PySem.W.kitOne K (.ref C_TooMany) (.ref C_BadWeights) = some false)
    (k_TooMany_BadWay : PySem.W.kitOne K (.ref C_TooMany) (.ref C_BadWay) = some false)
    (k_TooMany_BadClaim : PySem.W.kitOne K (.ref C_TooMany) (.ref C_BadClaim) = some false)
    (k_TooMany_ValueError : PySem.W.kitOne K (.ref C_TooMany) (.type "ValueError") = some true)
    (k_TooMany_Unlike : PySem.W.kitOne K (.ref C_TooMany) (.ref C_Unlike) = some false)
    (k_TooMany_Outside : PySem.W.kitOne K (.ref C_TooMany) (.ref C_Outside) = some false)
    (k_TooMany_NoText : PySem.W.kitOne K (.ref C_TooMany) (.ref C_NoText) = some false)
    (k_TooMany_NoFraction : PySem.W.kitOne K (.ref C_TooMany) (.ref C_NoFraction) = some false)
    (k_TooMany_NoBoat : PySem.W.kitOne K (.ref C_TooMany) (.ref C_NoBoat) = some false)
    (k_TooMany_BadLine : PySem.W.kitOne K (.ref C_TooMany) (.ref C_BadLine) = some false)
    (k_TooMany_BadCatch : PySem.W.kitOne K (.ref C_TooMany) (.ref C_BadCatch) = some false) : Et K mg := by
  refine ⟨fun c hc => ?_, fun c l hl => ?_⟩
  · simp only [tbT, List.contains_cons, List.contains_nil, Bool.or_false, Bool.or_eq_true, beq_iff_eq] at hc
    rcases hc with rfl | rfl | rfl | rfl
    · exact ⟨C_BadClaim, C_CatchError, PySem.W.mg_of X G n_BadClaim, PySem.W.mg_of X G n_CatchError, (exk_mk e1_BadClaim e2_BadClaim e3_BadClaim e4_BadClaim g5 g6 e7_BadClaim e8_BadClaim), cak_mk ce1 ce2 ce3, em_BadClaim⟩
    · exact ⟨C_BadWay, C_CatchError, PySem.W.mg_of X G n_BadWay, PySem.W.mg_of X G n_CatchError, (exk_mk e1_BadWay e2_BadWay e3_BadWay e4_BadWay g5 g6 e7_BadWay e8_BadWay), cak_mk ce1 ce2 ce3, em_BadWay⟩
    · exact ⟨C_BadWeights, C_CatchError, PySem.W.mg_of X G n_BadWeights, PySem.W.mg_of X G n_CatchError, (exk_mk e1_BadWeights e2_BadWeights e3_BadWeights e4_BadWeights g5 g6 e7_BadWeights e8_BadWeights), cak_mk ce1 ce2 ce3, em_BadWeights⟩
    · exact ⟨C_TooMany, C_CatchError, PySem.W.mg_of X G n_TooMany, PySem.W.mg_of X G n_CatchError, (exk_mk e1_TooMany e2_TooMany e3_TooMany e4_TooMany g5 g6 e7_TooMany e8_TooMany), cak_mk ce1 ce2 ce3, em_TooMany⟩
  · have hm := lookup_mem hl
    simp only [ancT, List.mem_cons, List.not_mem_nil, or_false, Prod.mk.injEq] at hm
    rcases hm with ⟨rfl, rfl⟩ | ⟨rfl, rfl⟩ | ⟨rfl, rfl⟩ | ⟨rfl, rfl⟩
    · refine ⟨C_BadClaim, PySem.W.mg_of X G n_BadClaim, (exk_mk e1_BadClaim e2_BadClaim e3_BadClaim e4_BadClaim g5 g6 e7_BadClaim e8_BadClaim), fun x hx => ?_⟩
      simp only [List.contains_cons, List.contains_nil, Bool.or_false, Bool.or_eq_true, beq_iff_eq] at hx
      rcases hx with rfl | rfl | rfl | rfl | rfl | rfl | rfl | rfl | rfl | rfl | rfl | rfl
      · exact ⟨_, _, clsv_own X G n_TooMany, ⟨_, .inl rfl⟩, k_BadClaim_TooMany⟩
      · exact ⟨_, _, clsv_own X G n_BadWeights, ⟨_, .inl rfl⟩, k_BadClaim_BadWeights⟩
      · exact ⟨_, _, clsv_own X G n_BadWay, ⟨_, .inl rfl⟩, k_BadClaim_BadWay⟩
      · exact ⟨_, _, clsv_own X G n_BadClaim, ⟨_, .inl rfl⟩, k_BadClaim_BadClaim⟩
      · exact ⟨_, _, clsv_blt X G z_ValueError PyProof.Rows.Boot.«ValueError» (by decide), ⟨0, .inr ⟨_, rfl⟩⟩, k_BadClaim_ValueError⟩
      · exact ⟨_, _, clsv_own X G n_Unlike, ⟨_, .inl rfl⟩, k_BadClaim_Unlike⟩
      · exact ⟨_, _, clsv_own X G n_Outside, ⟨_, .inl rfl⟩, k_BadClaim_Outside⟩
      · exact ⟨_, _, clsv_own X G n_NoText, ⟨_, .inl rfl⟩, k_BadClaim_NoText⟩
      · exact ⟨_, _, clsv_own X G n_NoFraction, ⟨_, .inl rfl⟩, k_BadClaim_NoFraction⟩
      · exact ⟨_, _, clsv_own X G n_NoBoat, ⟨_, .inl rfl⟩, k_BadClaim_NoBoat⟩
      · exact ⟨_, _, clsv_own X G n_BadLine, ⟨_, .inl rfl⟩, k_BadClaim_BadLine⟩
      · exact ⟨_, _, clsv_own X G n_BadCatch, ⟨_, .inl rfl⟩, k_BadClaim_BadCatch⟩
    · refine ⟨C_BadWay, PySem.W.mg_of X G n_BadWay, (exk_mk e1_BadWay e2_BadWay e3_BadWay e4_BadWay g5 g6 e7_BadWay e8_BadWay), fun x hx => ?_⟩
      simp only [List.contains_cons, List.contains_nil, Bool.or_false, Bool.or_eq_true, beq_iff_eq] at hx
      rcases hx with rfl | rfl | rfl | rfl | rfl | rfl | rfl | rfl | rfl | rfl | rfl | rfl
      · exact ⟨_, _, clsv_own X G n_TooMany, ⟨_, .inl rfl⟩, k_BadWay_TooMany⟩
      · exact ⟨_, _, clsv_own X G n_BadWeights, ⟨_, .inl rfl⟩, k_BadWay_BadWeights⟩
      · exact ⟨_, _, clsv_own X G n_BadWay, ⟨_, .inl rfl⟩, k_BadWay_BadWay⟩
      · exact ⟨_, _, clsv_own X G n_BadClaim, ⟨_, .inl rfl⟩, k_BadWay_BadClaim⟩
      · exact ⟨_, _, clsv_blt X G z_ValueError PyProof.Rows.Boot.«ValueError» (by decide), ⟨0, .inr ⟨_, rfl⟩⟩, k_BadWay_ValueError⟩
      · exact ⟨_, _, clsv_own X G n_Unlike, ⟨_, .inl rfl⟩, k_BadWay_Unlike⟩
      · exact ⟨_, _, clsv_own X G n_Outside, ⟨_, .inl rfl⟩, k_BadWay_Outside⟩
      · exact ⟨_, _, clsv_own X G n_NoText, ⟨_, .inl rfl⟩, k_BadWay_NoText⟩
      · exact ⟨_, _, clsv_own X G n_NoFraction, ⟨_, .inl rfl⟩, k_BadWay_NoFraction⟩
      · exact ⟨_, _, clsv_own X G n_NoBoat, ⟨_, .inl rfl⟩, k_BadWay_NoBoat⟩
      · exact ⟨_, _, clsv_own X G n_BadLine, ⟨_, .inl rfl⟩, k_BadWay_BadLine⟩
      · exact ⟨_, _, clsv_own X G n_BadCatch, ⟨_, .inl rfl⟩, k_BadWay_BadCatch⟩
    · refine ⟨C_BadWeights, PySem.W.mg_of X G n_BadWeights, (exk_mk e1_BadWeights e2_BadWeights e3_BadWeights e4_BadWeights g5 g6 e7_BadWeights e8_BadWeights), fun x hx => ?_⟩
      simp only [List.contains_cons, List.contains_nil, Bool.or_false, Bool.or_eq_true, beq_iff_eq] at hx
      rcases hx with rfl | rfl | rfl | rfl | rfl | rfl | rfl | rfl | rfl | rfl | rfl | rfl
      · exact ⟨_, _, clsv_own X G n_TooMany, ⟨_, .inl rfl⟩, k_BadWeights_TooMany⟩
      · exact ⟨_, _, clsv_own X G n_BadWeights, ⟨_, .inl rfl⟩, k_BadWeights_BadWeights⟩
      · exact ⟨_, _, clsv_own X G n_BadWay, ⟨_, .inl rfl⟩, k_BadWeights_BadWay⟩
      · exact ⟨_, _, clsv_own X G n_BadClaim, ⟨_, .inl rfl⟩, k_BadWeights_BadClaim⟩
      · exact ⟨_, _, clsv_blt X G z_ValueError PyProof.Rows.Boot.«ValueError» (by decide), ⟨0, .inr ⟨_, rfl⟩⟩, k_BadWeights_ValueError⟩
      · exact ⟨_, _, clsv_own X G n_Unlike, ⟨_, .inl rfl⟩, k_BadWeights_Unlike⟩
      · exact ⟨_, _, clsv_own X G n_Outside, ⟨_, .inl rfl⟩, k_BadWeights_Outside⟩
      · exact ⟨_, _, clsv_own X G n_NoText, ⟨_, .inl rfl⟩, k_BadWeights_NoText⟩
      · exact ⟨_, _, clsv_own X G n_NoFraction, ⟨_, .inl rfl⟩, k_BadWeights_NoFraction⟩
      · exact ⟨_, _, clsv_own X G n_NoBoat, ⟨_, .inl rfl⟩, k_BadWeights_NoBoat⟩
      · exact ⟨_, _, clsv_own X G n_BadLine, ⟨_, .inl rfl⟩, k_BadWeights_BadLine⟩
      · exact ⟨_, _, clsv_own X G n_BadCatch, ⟨_, .inl rfl⟩, k_BadWeights_BadCatch⟩
    · refine ⟨C_TooMany, PySem.W.mg_of X G n_TooMany, (exk_mk e1_TooMany e2_TooMany e3_TooMany e4_TooMany g5 g6 e7_TooMany e8_TooMany), fun x hx => ?_⟩
      simp only [List.contains_cons, List.contains_nil, Bool.or_false, Bool.or_eq_true, beq_iff_eq] at hx
      rcases hx with rfl | rfl | rfl | rfl | rfl | rfl | rfl | rfl | rfl | rfl | rfl | rfl
      · exact ⟨_, _, clsv_own X G n_TooMany, ⟨_, .inl rfl⟩, k_TooMany_TooMany⟩
      · exact ⟨_, _, clsv_own X G n_BadWeights, ⟨_, .inl rfl⟩, k_TooMany_BadWeights⟩
      · exact ⟨_, _, clsv_own X G n_BadWay, ⟨_, .inl rfl⟩, k_TooMany_BadWay⟩
      · exact ⟨_, _, clsv_own X G n_BadClaim, ⟨_, .inl rfl⟩, k_TooMany_BadClaim⟩
      · exact ⟨_, _, clsv_blt X G z_ValueError PyProof.Rows.Boot.«ValueError» (by decide), ⟨0, .inr ⟨_, rfl⟩⟩, k_TooMany_ValueError⟩
      · exact ⟨_, _, clsv_own X G n_Unlike, ⟨_, .inl rfl⟩, k_TooMany_Unlike⟩
      · exact ⟨_, _, clsv_own X G n_Outside, ⟨_, .inl rfl⟩, k_TooMany_Outside⟩
      · exact ⟨_, _, clsv_own X G n_NoText, ⟨_, .inl rfl⟩, k_TooMany_NoText⟩
      · exact ⟨_, _, clsv_own X G n_NoFraction, ⟨_, .inl rfl⟩, k_TooMany_NoFraction⟩
      · exact ⟨_, _, clsv_own X G n_NoBoat, ⟨_, .inl rfl⟩, k_TooMany_NoBoat⟩
      · exact ⟨_, _, clsv_own X G n_BadLine, ⟨_, .inl rfl⟩, k_TooMany_BadLine⟩
      · exact ⟨_, _, clsv_own X G n_BadCatch, ⟨_, .inl rfl⟩, k_TooMany_BadCatch⟩
section
variable {P : Program} {w : World} {K : PySem.W.Frag} {mg : Str → Option Value} {base : Heap} {k : Nat} {f : Addr} {fd : FuncData}
theorem ok_refuse_way (F : Fn K mg "refuse_way" s_refuse_way ["way"] f fd) (B : Bt mg) (KT : Kt K) (C : Ct K mg) (R : Rt K mg) (ET : Et K mg)  : CanM P w K mg base (k + 1) "refuse_way" ["way"] m_refuse_way :=
  fn_pure F sc_refuse_way fun cdv A outer s H E G W WR => (ss_one (s_if (tst_notT C.CONTRARY.choose_spec rfl (pd_var 0 (pv 0)) (by with_unfolding_all rfl)) (ss_one (s_raise W WR R.BadWay rfl (as_cons (pd_c pe_str fun _ => .str _) as_nil star_c))) ss_nil))
theorem ok_refuse_weights (F : Fn K mg "refuse_weights" s_refuse_weights ["way", "weights", "many"] f fd) (B : Bt mg) (KT : Kt K) (C : Ct K mg) (R : Rt K mg) (ET : Et K mg)  : CanM P w K mg base (k + 1) "refuse_weights" ["way", "weights", "many"] m_refuse_weights :=
  fn_pure F sc_refuse_weights fun cdv A outer s H E G W WR => (ss_cons (s_set (i := 3) sc_refuse_weights.nd rfl (Or.inl rfl) (pd_if (tst (inA W.u) k_in (pd_var 0 (pv 0)) (pd_glob rfl C.WEIGHTED) (by with_unfolding_all rfl)) (pd_var 2 (pv 2)) (pd_c pe_int fun _ => .int _)))
 (ss_cons (s_if (tst (neA W.u) k_ne (pd_callB call_len_seq kb_len rfl B.len PySem.boot_len (as_cons (pd_var 1 (pv 1)) as_nil star_nm)) (pd_var 3 (pv 3)) (nomark _)) (ss_one (s_raise W WR R.BadWeights rfl (as_cons (pd_c pe_str fun _ => .str _) as_nil star_c))) ss_nil)
 (ss_one (s_for W.own W.calm (i_seq (pd_var 1 (pv 1))) (g_name (i := 4) sc_refuse_weights.nd rfl (Or.inl rfl)) gne_name (ss_one (s_if (PWd.pt (w_or (tst op_lt k_lt (pd_var 4 (pv 4)) (pd_c pe_int fun _ => .int _) (nomark _)) (w_or1 (tst op_gt k_gt (pd_var 4 (pv 4)) (pd_op op_powA k_pow (pd_c pe_int fun _ => .int _) (pd_c pe_int fun _ => .int _)) (nomark _))))) (ss_one (s_raise W WR R.BadWeights rfl (as_cons (pd_c pe_str fun _ => .str _) as_nil star_c))) ss_nil))))))
theorem ok_boat (F : Fn K mg "boat" s_boat ["claim"] f fd) (B : Bt mg) (KT : Kt K) (C : Ct K mg) (R : Rt K mg) (ET : Et K mg)  : CanM P w K mg base (k + 1) "boat" ["claim"] m_boat :=
  fn_pure F sc_boat fun cdv A outer s H E G W WR => (ss_cons (s_if (PWd.pt (w_or (tst op_lt k_lt (pd_var 0 (pv 0)) (pd_c pe_int fun _ => .int _) (nomark _)) (w_or1 (tst op_gt k_gt (pd_var 0 (pv 0)) (pd_op op_powA k_pow (pd_c pe_int fun _ => .int _) (pd_c pe_int fun _ => .int _)) (nomark _))))) (ss_one (s_raise W WR R.BadClaim rfl (as_cons (pd_c pe_str fun _ => .str _) as_nil star_c))) ss_nil)
 (ss_one (s_ret (pd_tup (as_cons (pd_glob rfl C.BOAT) (as_cons (pd_var 0 (pv 0)) as_nil star_nm) star_nm)))))
theorem ok_is_boat (F : Fn K mg "is_boat" s_is_boat ["custom"] f fd) (B : Bt mg) (KT : Kt K) (C : Ct K mg) (R : Rt K mg) (ET : Et K mg)  : CanM P w K mg base (k + 1) "is_boat" ["custom"] m_is_boat :=
  fn_pure F sc_is_boat fun cdv A outer s H E G W WR => (ss_one (s_ret (pd_cmp (eqA W.u) k_eq (pd_ix ix_both k_ix (pd_var 0 (pv 0)) (pd_c pe_int fun _ => .int _) (fun _ _ => rfl)) (pd_glob rfl C.BOAT) (nomark _))))
theorem ok_law_weights (F : Fn K mg "_law_weights" s_law_weights ["word", "cell", "many"] f fd) (B : Bt mg) (KT : Kt K) (C : Ct K mg) (R : Rt K mg) (ET : Et K mg)  : CanM P w K mg base (k + 1) "_law_weights" ["word", "cell", "many"] m_law_weights :=
  fn_pure F sc_law_weights fun cdv A outer s H E G W WR => (ss_cons (s_set (i := 3) sc_law_weights.nd rfl (Or.inl rfl) (pd_op op_modN k_mod (pd_op op_divA k_div (pd_var 1 (pv 1)) (pd_c pe_int fun _ => .int _)) (pd_c pe_int fun _ => .int _)))
 (ss_cons (s_setC (i := 4) sc_law_weights.nd rfl (Or.inl rfl) (PCf.d (pc_compB W sc_law_weights.nd rfl (sc := defScope s_law_weights) rfl rfl (by decide +kernel) (i_rng1 rfl B.range (as_cons (pd_var 2 (pv 2)) as_nil star_nm)) (fun C2 s2 H2 fp2 G W => ⟨ts_nil, (pd_op op_addA k_add (pd_c pe_int fun _ => .int _) (pd_op op_modN k_mod (pd_op op_divA k_div (pd_var 1 (pv 1)) (pd_op op_addA k_add (pd_c pe_int fun _ => .int _) (pd_var 5 (pv 5)))) (pd_ix ix_both k_ix (PEf.d (pf_lst (as_cons (pd_c pe_int fun _ => .int _) (as_cons (pd_op op_powA k_pow (pd_c pe_int fun _ => .int _) (pd_c pe_int fun _ => .int _)) as_nil star_bin) star_c))) (pd_op op_modN k_mod (pd_var 1 (pv 1)) (pd_c pe_int fun _ => .int _)) (fun _ _ => rfl))))⟩))) rfl)
 (ss_cons (s_if (tst (notInA W.u) k_notIn (pd_var 0 (pv 0)) (pd_tup (as_cons (pd_c pe_str fun _ => .str _) (as_cons (pd_c pe_str fun _ => .str _) as_nil star_c) star_c)) (by with_unfolding_all rfl)) (ss_one (s_ret (pd_ix ix_both k_ix (PEf.d (pf_lst (as_cons (PEf.d (pf_lst as_nil)) (as_cons (PEf.d (pf_lst as_nil)) (as_cons (PEf.d (pf_lst as_nil)) (as_cons (pd_var 4 (pv 4)) as_nil star_nm) star_lst) star_lst) star_lst))) (pd_op op_modN k_mod (pd_var 3 (pv 3)) (pd_c pe_int fun _ => .int _)) (fun _ _ => rfl)))) ss_nil)
 (ss_cons (s_if (tst (eqA W.u) k_eq (pd_var 3 (pv 3)) (pd_c pe_int fun _ => .int _) (nomark _)) (ss_one (s_ret (PEf.d (pf_cat (pd_var 4 (pv 4)) (PEf.d (pf_lst (as_cons (pd_c pe_int fun _ => .int _) as_nil star_c))))))) ss_nil)
 (ss_cons (s_if (tst (eqA W.u) k_eq (pd_var 3 (pv 3)) (pd_c pe_int fun _ => .int _) (nomark _)) (ss_one (s_ret (PEf.d (pf_slice (pd_var 4 (pv 4)) (od_some (pd_c pe_int fun _ => .int _)) od_none)))) ss_nil)
 (ss_cons (s_if (PWd.pt (w_and (tst (eqA W.u) k_eq (pd_var 3 (pv 3)) (pd_c pe_int fun _ => .int _) (nomark _)) (w_and1 (tst op_gt k_gt (pd_var 2 (pv 2)) (pd_c pe_int fun _ => .int _) (nomark _))))) (ss_one (s_ret (PEf.d (pf_cat (PEf.d (pf_slice (pd_var 4 (pv 4)) od_none (od_some (pd_op op_sub k_sub (pd_var 2 (pv 2)) (pd_c pe_int fun _ => .int _))))) (PEf.d (pf_lst (as_cons (pd_ix ix_both k_ix (PEf.d (pf_lst (as_cons (pd_c pe_int fun _ => .int _) (as_cons (pd_op op_powA k_pow (pd_c pe_int fun _ => .int _) (pd_c pe_int fun _ => .int _)) (as_cons (pd_op op_addA k_add (pd_op op_powA k_pow (pd_c pe_int fun _ => .int _) (pd_c pe_int fun _ => .int _)) (pd_c pe_int fun _ => .int _)) (as_cons (pd_neg (pd_c pe_int fun _ => .int _)) as_nil) star_bin) star_bin) star_c))) (pd_op op_modN k_mod (pd_op op_divA k_div (pd_var 1 (pv 1)) (pd_c pe_int fun _ => .int _)) (pd_c pe_int fun _ => .int _)) (fun _ _ => rfl)) as_nil star_sub))))))) ss_nil)
 (ss_cons (s_if (tst (eqA W.u) k_eq (pd_var 3 (pv 3)) (pd_c pe_int fun _ => .int _) (nomark _)) (ss_one (s_ret (PEf.d (pf_lst as_nil)))) ss_nil)
 (ss_one (s_ret (pd_var 4 (pv 4)))))))))))
theorem ok_law_due (F : Fn K mg "_law_due" s_law_due ["word", "weights", "kids"] f fd) (B : Bt mg) (KT : Kt K) (C : Ct K mg) (R : Rt K mg) (ET : Et K mg)  : CanM P w K mg base (k + 1) "_law_due" ["word", "weights", "kids"] m_law_due :=
  fn_pure F sc_law_due fun cdv A outer s H E G W WR => (ss_cons (s_if (tst (notInA W.u) k_notIn (pd_var 0 (pv 0)) (pd_tup (as_cons (pd_c pe_str fun _ => .str _) (as_cons (pd_c pe_str fun _ => .str _) (as_cons (pd_c pe_str fun _ => .str _) (as_cons (pd_c pe_str fun _ => .str _) (as_cons (pd_c pe_str fun _ => .str _) (as_cons (pd_c pe_str fun _ => .str _) as_nil star_c) star_c) star_c) star_c) star_c) star_c)) (by with_unfolding_all rfl)) (ss_one (s_ret (pd_c pe_str fun _ => .str _))) ss_nil)
 (ss_cons (s_set (i := 3) sc_law_due.nd rfl (Or.inl rfl) (pd_c pe_int fun _ => .int _))
 (ss_cons (s_if (tst (inA W.u) k_in (pd_var 0 (pv 0)) (pd_tup (as_cons (pd_c pe_str fun _ => .str _) (as_cons (pd_c pe_str fun _ => .str _) as_nil star_c) star_c)) (by with_unfolding_all rfl)) (ss_one (s_set (i := 3) sc_law_due.nd rfl (Or.inl rfl) (pd_callB call_len_seq kb_len rfl B.len PySem.boot_len (as_cons (pd_var 2 (pv 2)) as_nil star_nm)))) ss_nil)
 (ss_cons (s_if (PWd.pt (w_or (tst (neA W.u) k_ne (pd_callB call_len_seq kb_len rfl B.len PySem.boot_len (as_cons (pd_var 1 (pv 1)) as_nil star_nm)) (pd_var 3 (pv 3)) (nomark _)) (w_or1 (tst (neA W.u) k_ne (PEf.d (pf_compB W sc_law_due.nd rfl (sc := defScope s_law_due) rfl rfl (by decide +kernel) (i_seq (pd_var 1 (pv 1))) (fun C2 s2 H2 fp2 G W => ⟨(ts_one (PWd.pt (w_or (tst op_lt k_lt (pd_var 4 (pv 4)) (pd_c pe_int fun _ => .int _) (nomark _)) (w_or1 (tst op_gt k_gt (pd_var 4 (pv 4)) (pd_op op_powA k_pow (pd_c pe_int fun _ => .int _) (pd_c pe_int fun _ => .int _)) (nomark _)))))), (pd_var 4 (pv 4))⟩))) (PEf.d (pf_lst as_nil)) (nomark _))))) (ss_one (s_ret (pd_c pe_str fun _ => .str _))) ss_nil)
 (ss_cons (s_if (PWd.pt (w_or (tst (eqA W.u) k_eq (pd_callB call_len_seq kb_len rfl B.len PySem.boot_len (as_cons (pd_var 2 (pv 2)) as_nil star_nm)) (pd_c pe_int fun _ => .int _) (nomark _)) (w_or (tst op_gt k_gt (pd_callB call_len_seq kb_len rfl B.len PySem.boot_len (as_cons (pd_var 2 (pv 2)) as_nil star_nm)) (pd_c pe_int fun _ => .int _) (nomark _)) (w_or1 (tst op_gt k_gt (pd_callB (call_sum W.calm) kb_sum rfl B.sum boot_sum2 (as_cons (PEf.d (pf_compB W sc_law_due.nd rfl (sc := defScope s_law_due) rfl rfl (by decide +kernel) (i_seq (pd_var 2 (pv 2))) (fun C2 s2 H2 fp2 G W => ⟨ts_nil, (pd_ix ix_both k_ix (pd_var 4 (pv 4)) (pd_c pe_int fun _ => .int _) (fun _ _ => rfl))⟩))) as_nil)) (pd_c pe_int fun _ => .int _) (nomark _)))))) (ss_one (s_ret (pd_c pe_str fun _ => .str _))) ss_nil)
 (ss_cons (s_if (tst op_gt k_gt (pd_op op_addA k_add (pd_c pe_int fun _ => .int _) (pd_callB (call_maxL W.calm) kb_maxL rfl B.max boot_max (as_cons (PEf.d (pf_compB W sc_law_due.nd rfl (sc := defScope s_law_due) rfl rfl (by decide +kernel) (i_seq (pd_var 2 (pv 2))) (fun C2 s2 H2 fp2 G W => ⟨ts_nil, (pd_ix ix_both k_ix (pd_var 4 (pv 4)) (pd_c pe_int fun _ => .int _) (fun _ _ => rfl))⟩))) as_nil))) (pd_c pe_int fun _ => .int _) (nomark _)) (ss_one (s_ret (pd_c pe_str fun _ => .str _))) ss_nil)
 (ss_one (s_ret (pd_tup (as_cons (pd_var 0 (pv 0)) (as_cons (pd_callTy call_tuple_of kb_tup rfl B.tuple boot_tuple (as_cons (pd_var 1 (pv 1)) as_nil star_nm)) (as_cons (pd_callTy call_tuple_of kb_tup rfl B.tuple boot_tuple (as_cons (PEf.d (pf_compB W sc_law_due.nd rfl (sc := defScope s_law_due) rfl rfl (by decide +kernel) (i_seq (pd_var 2 (pv 2))) (fun C2 s2 H2 fp2 G W => ⟨ts_nil, (pd_ix ix_both k_ix (pd_var 4 (pv 4)) (pd_c pe_int fun _ => .int _) (fun _ _ => rfl))⟩))) as_nil)) as_nil star_call) star_call) star_nm))))))))))
theorem ok_kids_of (F : Fn K mg "kids_of" s_kids_of ["custom"] f fd) (B : Bt mg) (KT : Kt K) (C : Ct K mg) (R : Rt K mg) (ET : Et K mg) (c_is_boat : CanM P w K mg base k "is_boat" ["custom"] m_is_boat) : CanM P w K mg base (k + 1) "kids_of" ["custom"] m_kids_of :=
  fn_pure F sc_kids_of fun cdv A outer s H E G W WR => (ss_one (s_ret (pd_if (pt_v (pd_call W c_is_boat rfl (as_cons (pd_var 0 (pv 0)) as_nil star_nm))) (pd_tup as_nil) (pd_ix ix_both k_ix (pd_var 0 (pv 0)) (pd_c pe_int fun _ => .int _) (fun _ _ => rfl)))))
theorem st_claims_of {r : Mir} (F : Fn K mg "claims_of" s_claims_of ["custom"] f fd) (B : Bt mg) (KT : Kt K) (C : Ct K mg) (R : Rt K mg) (ET : Et K mg) (c_is_boat : CanM P w K mg base k "is_boat" ["custom"] m_is_boat) (c_kids_of : CanM P w K mg base k "kids_of" ["custom"] m_kids_of) (c_claims_of : CanM P w K mg base k "claims_of" ["custom"] r) : CanM P w K mg base (k + 1) "claims_of" ["custom"] (g_claims_of r) :=
  fn_pure F sc_claims_of fun cdv A outer s H E G W WR => (ss_cons (s_if (pt_v (pd_call W c_is_boat rfl (as_cons (pd_var 0 (pv 0)) as_nil star_nm))) (ss_one (s_retF (pf_lst (as_cons (pd_ix ix_both k_ix (pd_var 0 (pv 0)) (pd_c pe_int fun _ => .int _) (fun _ _ => rfl)) as_nil star_sub)))) ss_nil)
 (ss_cons (s_own (i := 1) sc_claims_of.nd rfl (Or.inl rfl) (pf_lst as_nil))
 (ss_cons (s_for W.own W.calm (i_seq (pd_call W c_kids_of rfl (as_cons (pd_var 0 (pv 0)) as_nil star_nm))) (g_name (i := 2) sc_claims_of.nd rfl (Or.inl rfl)) gne_name (ss_one (s_ext (i := 1) (pv 1) (pf_call W c_claims_of rfl (as_cons (pd_var 2 (pv 2)) as_nil star_nm)))))
 (ss_one (s_retOwn 1 (pv 1))))))
theorem ok_claims_of (F : Fn K mg "claims_of" s_claims_of ["custom"] f fd) (B : Bt mg) (KT : Kt K) (C : Ct K mg) (R : Rt K mg) (ET : Et K mg) (c_is_boat : CanM P w K mg base k "is_boat" ["custom"] m_is_boat) (c_kids_of : CanM P w K mg base k "kids_of" ["custom"] m_kids_of) : ∀ n : Nat, CanM P w K mg base (k + 1 + n) "claims_of" ["custom"] (m_claims_of n)
  | 0 => fn_pure F sc_claims_of fun cdv A outer s H E G W WR => ss_no
  | n + 1 => st_claims_of (k := k + 1 + n) F B KT C R ET (c_is_boat := c_is_boat.mono (by omega)) (c_kids_of := c_kids_of.mono (by omega)) (c_claims_of := ok_claims_of F B KT C R ET (c_is_boat := c_is_boat) (c_kids_of := c_kids_of) n)
theorem st_deep_of {r : Mir} (F : Fn K mg "deep_of" s_deep_of ["custom"] f fd) (B : Bt mg) (KT : Kt K) (C : Ct K mg) (R : Rt K mg) (ET : Et K mg) (c_kids_of : CanM P w K mg base k "kids_of" ["custom"] m_kids_of) (c_deep_of : CanM P w K mg base k "deep_of" ["custom"] r) : CanM P w K mg base (k + 1) "deep_of" ["custom"] (g_deep_of r) :=
  fn_pure F sc_deep_of fun cdv A outer s H E G W WR => (ss_one (s_ret (pd_op op_addA k_add (pd_c pe_int fun _ => .int _) (pd_maxD W.calm rfl B.max (PEf.d (pf_compB W sc_deep_of.nd rfl (sc := defScope s_deep_of) rfl rfl (by decide +kernel) (i_seq (pd_call W c_kids_of rfl (as_cons (pd_var 0 (pv 0)) as_nil star_nm))) (fun C2 s2 H2 fp2 G W => ⟨ts_nil, (pd_call W c_deep_of rfl (as_cons (pd_var 1 (pv 1)) as_nil star_nm))⟩))) (pd_c pe_int fun _ => .int _)))))
theorem ok_deep_of (F : Fn K mg "deep_of" s_deep_of ["custom"] f fd) (B : Bt mg) (KT : Kt K) (C : Ct K mg) (R : Rt K mg) (ET : Et K mg) (c_kids_of : CanM P w K mg base k "kids_of" ["custom"] m_kids_of) : ∀ n : Nat, CanM P w K mg base (k + 1 + n) "deep_of" ["custom"] (m_deep_of n)
  | 0 => fn_pure F sc_deep_of fun cdv A outer s H E G W WR => ss_no
  | n + 1 => st_deep_of (k := k + 1 + n) F B KT C R ET (c_kids_of := c_kids_of.mono (by omega)) (c_deep_of := ok_deep_of F B KT C R ET (c_kids_of := c_kids_of) n)
theorem ok_knot (F : Fn K mg "knot" s_knot ["way", "weights", "kids"] f fd) (B : Bt mg) (KT : Kt K) (C : Ct K mg) (R : Rt K mg) (ET : Et K mg) (c_refuse_way : CanM P w K mg base k "refuse_way" ["way"] m_refuse_way) (c_refuse_weights : CanM P w K mg base k "refuse_weights" ["way", "weights", "many"] m_refuse_weights) (c_deep_of : CanM P w K mg base k "deep_of" ["custom"] (m_deep_of 10)) (c_claims_of : CanM P w K mg base k "claims_of" ["custom"] (m_claims_of 10)) : CanM P w K mg base (k + 1) "knot" ["way", "weights", "kids"] m_knot :=
  fn_pure F sc_knot fun cdv A outer s H E G W WR => (ss_cons (s_expr (pd_call W c_refuse_way rfl (as_cons (pd_var 0 (pv 0)) as_nil star_nm)))
 (ss_cons (s_expr (pd_call W c_refuse_weights rfl (as_cons (pd_var 0 (pv 0)) (as_cons (pd_var 1 (pv 1)) (as_cons (pd_callB call_len_seq kb_len rfl B.len PySem.boot_len (as_cons (pd_var 2 (pv 2)) as_nil star_nm)) as_nil star_call) star_nm) star_nm)))
 (ss_cons (s_set (i := 3) sc_knot.nd rfl (Or.inl rfl) (pd_tup (as_cons (pd_var 0 (pv 0)) (as_cons (pd_callTy call_tuple_of kb_tup rfl B.tuple boot_tuple (as_cons (pd_var 1 (pv 1)) as_nil star_nm)) (as_cons (pd_callTy call_tuple_of kb_tup rfl B.tuple boot_tuple (as_cons (pd_var 2 (pv 2)) as_nil star_nm)) as_nil star_call) star_call) star_nm)))
 (ss_cons (s_if (PWd.pt (w_or (tst (eqA W.u) k_eq (pd_callB call_len_seq kb_len rfl B.len PySem.boot_len (as_cons (pd_var 2 (pv 2)) as_nil star_nm)) (pd_c pe_int fun _ => .int _) (nomark _)) (w_or (tst op_gt k_gt (pd_callB call_len_seq kb_len rfl B.len PySem.boot_len (as_cons (PEf.d (pf_call W c_claims_of rfl (as_cons (pd_var 3 (pv 3)) as_nil star_nm))) as_nil star_call)) (pd_glob rfl C.MOST_BOATS) (nomark _)) (w_or1 (tst op_gt k_gt (pd_call W c_deep_of rfl (as_cons (pd_var 3 (pv 3)) as_nil star_nm)) (pd_glob rfl C.DEEPEST) (nomark _)))))) (ss_one (s_raise W WR R.TooMany rfl (as_cons (pd_c pe_str fun _ => .str _) as_nil star_c))) ss_nil)
 (ss_one (s_ret (pd_var 3 (pv 3))))))))
theorem ok_law_told (F : Fn K mg "_law_told" s_law_told ["word", "weights", "kids"] f fd) (B : Bt mg) (KT : Kt K) (C : Ct K mg) (R : Rt K mg) (ET : Et K mg) (c_boat : CanM P w K mg base k "boat" ["claim"] m_boat) (c_knot : CanM P w K mg base k "knot" ["way", "weights", "kids"] m_knot) : CanM P w K mg base (k + 1) "_law_told" ["word", "weights", "kids"] m_law_told :=
  fn_pure F sc_law_told fun cdv A outer s H E G W WR => (ss_cons (s_set (i := 3) sc_law_told.nd rfl (Or.inl rfl) (pd_c pe_non fun _ => .non))
 (ss_cons (s_own (i := 4) sc_law_told.nd rfl (Or.inl rfl) (pf_lst as_nil))
 (ss_cons (s_try W own_cx ET.cat rfl sc_law_told.nd (i := 5) rfl rfl (x_one (x_if (tst_isN (pd_var 0 (pv 0)) pe_non (nomark _)) (x_one (x_set (i := 3) sc_law_told.nd rfl (Or.inl rfl) W c_boat rfl (as_cons (pd_var 1 (pv 1)) as_nil star_nm))) (x_one (x_set (i := 3) sc_law_told.nd rfl (Or.inl rfl) W c_knot rfl (as_cons (pd_var 0 (pv 0)) (as_cons (pd_var 1 (pv 1)) (as_cons (pd_var 2 (pv 2)) as_nil star_nm) star_nm) star_nm))))) (fun ea W => (ss_cons (s_own (i := 4) sc_law_told.nd rfl (Or.inl rfl) (pf_lst (as_cons (pd_isE ET.ek rfl rfl B.isinstance (pv 5) rfl) (as_cons (pd_isE ET.ek rfl rfl B.isinstance (pv 5) rfl) (as_cons (pd_isE ET.ek rfl rfl B.isinstance (pv 5) rfl) (as_cons (pd_isE ET.ek rfl rfl B.isinstance (pv 5) rfl) as_nil star_call) star_call) star_call) star_call)))
 (ss_cons (s_app (i := 4) (pv 4) (pd_not (pd_isE ET.ek rfl rfl B.isinstance (pv 5) rfl)))
 (ss_one (s_app (i := 4) (pv 4) (pd_isEs ET.ek (.cons rfl rfl (by decide) rfl (.cons rfl rfl (by decide) rfl (.cons rfl rfl (by decide) rfl (.cons rfl rfl (by decide) rfl (.cons rfl rfl (by decide) rfl (.cons rfl rfl (by decide) rfl (.cons rfl rfl (by decide) rfl .nil))))))) rfl B.isinstance (pv 5) (by decide))))))))
 (PSsd.frzAt 4 (ss_cons (s_if (tst (eqA W.u) k_eq (pd_var 4 (pv 4)) (PEf.d (pf_lst as_nil)) (nomark _)) (ss_one (s_ret (pd_var 3 (pv 3)))) ss_nil)
 (ss_cons (s_if (tst (neA W.u) k_ne (pd_count (pd_var 4 (pv 4))) (pd_c pe_int fun _ => .int _) (nomark _)) (ss_one (s_ret (pd_c pe_str fun _ => .str _))) ss_nil)
 (ss_one (s_ret (pd_ix ix_both k_ix (PEf.d (pf_lst (as_cons (pd_c pe_str fun _ => .str _) (as_cons (pd_c pe_str fun _ => .str _) (as_cons (pd_c pe_str fun _ => .str _) (as_cons (pd_c pe_str fun _ => .str _) (as_cons (pd_c pe_str fun _ => .str _) (as_cons (pd_c pe_str fun _ => .str _) as_nil star_c) star_c) star_c) star_c) star_c) star_c))) (pd_index (pd_var 4 (pv 4))) (fun _ _ => rfl))))))))))
theorem ok_law_knot (F : Fn K mg "_law_knot" s_law_knot ["pile", "cell"] f fd) (B : Bt mg) (KT : Kt K) (C : Ct K mg) (R : Rt K mg) (ET : Et K mg) (c_law_weights : CanM P w K mg base k "_law_weights" ["word", "cell", "many"] m_law_weights) (c_law_due : CanM P w K mg base k "_law_due" ["word", "weights", "kids"] m_law_due) (c_law_told : CanM P w K mg base k "_law_told" ["word", "weights", "kids"] m_law_told) : CanM P w K mg base (k + 1) "_law_knot" ["pile", "cell"] m_law_knot :=
  fn_pure F sc_law_knot fun cdv A outer s H E G W WR => (ss_cons (s_set (i := 2) sc_law_knot.nd rfl (Or.inl rfl) (pd_ix ix_both k_ix (PEf.d (pf_lst (as_cons (pd_op op_modN k_mod (pd_op op_divA k_div (pd_var 1 (pv 1)) (pd_c pe_int fun _ => .int _)) (pd_c pe_int fun _ => .int _)) (as_cons (pd_op op_addA k_add (pd_c pe_int fun _ => .int _) (pd_op op_modN k_mod (pd_op op_divA k_div (pd_var 1 (pv 1)) (pd_c pe_int fun _ => .int _)) (pd_c pe_int fun _ => .int _))) (as_cons (pd_c pe_int fun _ => .int _) as_nil star_c) star_bin) star_bin))) (pd_op op_modN k_mod (pd_op op_divA k_div (pd_var 1 (pv 1)) (pd_c pe_int fun _ => .int _)) (pd_c pe_int fun _ => .int _)) (fun _ _ => rfl)))
 (ss_cons (s_set (i := 2) sc_law_knot.nd rfl (Or.inl rfl) (pd_callB (call_min2 W.calm) kb_min rfl B.min boot_min (as_cons (pd_var 2 (pv 2)) (as_cons (pd_callB call_len_seq kb_len rfl B.len PySem.boot_len (as_cons (pd_var 0 (pv 0)) as_nil star_nm)) as_nil star_call) star_nm)))
 (ss_cons (s_set (i := 3) sc_law_knot.nd rfl (Or.inl rfl) (PEf.d (pf_lst (as_cons (pd_c pe_str fun _ => .str _) (as_cons (pd_c pe_str fun _ => .str _) (as_cons (pd_c pe_str fun _ => .str _) (as_cons (pd_c pe_str fun _ => .str _) (as_cons (pd_c pe_str fun _ => .str _) (as_cons (pd_c pe_str fun _ => .str _) (as_cons (pd_c pe_str fun _ => .str _) (as_cons (pd_c pe_str fun _ => .str _) (as_cons (pd_ix ix_both k_ix (PEf.d (pf_lst (as_cons (pd_c pe_str fun _ => .str _) (as_cons (pd_c pe_str fun _ => .str _) (as_cons (pd_c pe_str fun _ => .str _) (as_cons (pd_c pe_str fun _ => .str _) as_nil star_c) star_c) star_c) star_c))) (pd_op op_modN k_mod (pd_op op_divA k_div (pd_var 1 (pv 1)) (pd_c pe_int fun _ => .int _)) (pd_c pe_int fun _ => .int _)) (fun _ _ => rfl)) as_nil star_sub) star_c) star_c) star_c) star_c) star_c) star_c) star_c) star_c))))
 (ss_cons (s_set (i := 4) sc_law_knot.nd rfl (Or.inl rfl) (pd_ix ix_both k_ix (pd_var 3 (pv 3)) (pd_op op_modN k_mod (pd_op op_divA k_div (pd_var 1 (pv 1)) (pd_c pe_int fun _ => .int _)) (pd_c pe_int fun _ => .int _)) (fun _ _ => rfl)))
 (ss_cons (s_set (i := 5) sc_law_knot.nd rfl (Or.inl rfl) (PEf.d (pf_slice (pd_var 0 (pv 0)) (od_some (pd_op op_sub k_sub (pd_callB call_len_seq kb_len rfl B.len PySem.boot_len (as_cons (pd_var 0 (pv 0)) as_nil star_nm)) (pd_var 2 (pv 2)))) od_none)))
 (ss_cons (s_set (i := 6) sc_law_knot.nd rfl (Or.inl rfl) (pd_call W c_law_weights rfl (as_cons (pd_var 4 (pv 4)) (as_cons (pd_op op_divA k_div (pd_var 1 (pv 1)) (pd_c pe_int fun _ => .int _)) (as_cons (pd_var 2 (pv 2)) as_nil star_nm) star_bin) star_nm)))
 (ss_cons (s_set (i := 7) sc_law_knot.nd rfl (Or.inl rfl) (pd_call W c_law_due rfl (as_cons (pd_var 4 (pv 4)) (as_cons (pd_var 6 (pv 6)) (as_cons (pd_var 5 (pv 5)) as_nil star_nm) star_nm) star_nm)))
 (ss_cons (s_setC (i := 8) sc_law_knot.nd rfl (Or.inl rfl) (PCf.d (pc_compB W sc_law_knot.nd rfl (sc := defScope s_law_knot) rfl rfl (by decide +kernel) (i_seq (pd_var 5 (pv 5))) (fun C2 s2 H2 fp2 G W => ⟨ts_nil, (pd_ix ix_both k_ix (pd_var 11 (pv 11)) (pd_c pe_int fun _ => .int _) (fun _ _ => rfl))⟩))) rfl)
 (ss_cons (s_if (tst (eqA W.u) k_eq (pd_op op_modN k_mod (pd_var 1 (pv 1)) (pd_c pe_int fun _ => .int _)) (pd_c pe_int fun _ => .int _) (nomark _)) (ss_one (s_ret (pd_tup (as_cons (pd_call W c_law_told rfl (as_cons (pd_var 4 (pv 4)) (as_cons (pd_callTy call_tuple_of kb_tup rfl B.tuple boot_tuple (as_cons (pd_var 6 (pv 6)) as_nil star_nm)) (as_cons (pd_callTy call_tuple_of kb_tup rfl B.tuple boot_tuple (as_cons (pd_var 8 (pv 8)) as_nil star_nm)) as_nil star_call) star_call) star_nm)) (as_cons (pd_var 7 (pv 7)) (as_cons (pd_var 5 (pv 5)) as_nil star_nm) star_nm) star_call)))) ss_nil)
 (s_lent (i := 9) (fo := 10) sc_law_knot.nd rfl (Or.inl rfl) rfl (Or.inl rfl) (pf_list rfl B.list boot_list (as_cons (pd_var 6 (pv 6)) as_nil star_nm)) (pf_list rfl B.list boot_list (as_cons (pd_var 8 (pv 8)) as_nil star_nm)) (pd_call W c_law_told rfl (as_cons (pd_var 4 (pv 4)) (as_cons (pd_ix ix_both k_ix (pd_var 9 (pv 9)) (pd_c pe_int fun _ => .int _) (fun _ _ => rfl)) (as_cons (pd_ix ix_both k_ix (pd_var 9 (pv 9)) (pd_c pe_int fun _ => .int _) (fun _ _ => rfl)) as_nil star_sub) star_sub) star_nm)) (tst (neA W.u) k_ne (pd_var 9 (pv 9)) (PEf.d (pf_lst (as_cons (pd_var 6 (pv 6)) (as_cons (pd_var 8 (pv 8)) as_nil star_nm) star_nm))) (nomark _)) (pv 9) (pv 9)
 (ss_one (s_ret (pd_tup (as_cons (pd_var 10 (pv 10)) (as_cons (pd_var 7 (pv 7)) (as_cons (pd_var 5 (pv 5)) as_nil star_nm) star_nm) star_nm))))))))))))))
theorem st_law_alike {r : Mir} (F : Fn K mg "_law_alike" s_law_alike ["found", "due"] f fd) (B : Bt mg) (KT : Kt K) (C : Ct K mg) (R : Rt K mg) (ET : Et K mg)  (c_law_alike : CanM P w K mg base k "_law_alike" ["found", "due"] r) : CanM P w K mg base (k + 1) "_law_alike" ["found", "due"] (g_law_alike r) :=
  fn_pure F sc_law_alike fun cdv A outer s H E G W WR => (ss_cons (s_if (pt_v (pd_isT KT.tuple rfl B.isinstance (pd_var 1 (pv 1)) (pe_bltn (v := .ty "tuple") rfl B.tuple boot_tuple rfl))) (ss_cons (s_if (PWd.pt (w_or (pt_n (pt_v (pd_isT KT.tuple rfl B.isinstance (pd_var 0 (pv 0)) (pe_bltn (v := .ty "tuple") rfl B.tuple boot_tuple rfl)))) (w_or1 (tst (neA W.u) k_ne (pd_callB call_len_seq kb_len rfl B.len PySem.boot_len (as_cons (pd_var 0 (pv 0)) as_nil star_nm)) (pd_callB call_len_seq kb_len rfl B.len PySem.boot_len (as_cons (pd_var 1 (pv 1)) as_nil star_nm)) (nomark _))))) (ss_one (s_ret (pd_c pe_bl fun _ => .bl _))) ss_nil)
 (ss_cons (s_for W.own W.calm (i_rng1 rfl B.range (as_cons (pd_callB call_len_seq kb_len rfl B.len PySem.boot_len (as_cons (pd_var 1 (pv 1)) as_nil star_nm)) as_nil star_call)) (g_name (i := 2) sc_law_alike.nd rfl (Or.inl rfl)) gne_name (ss_one (s_if (pt_n (pt_v (pd_call W c_law_alike rfl (as_cons (pd_ix ix_both k_ix (pd_var 0 (pv 0)) (pd_var 2 (pv 2)) (fun _ _ => rfl)) (as_cons (pd_ix ix_both k_ix (pd_var 1 (pv 1)) (pd_var 2 (pv 2)) (fun _ _ => rfl)) as_nil star_sub) star_sub)))) (ss_one (s_ret (pd_c pe_bl fun _ => .bl _))) ss_nil)))
 (ss_one (s_ret (pd_c pe_bl fun _ => .bl _))))) ss_nil)
 (ss_cons (s_if (pt_v (pd_isT KT.str rfl B.isinstance (pd_var 1 (pv 1)) (pe_bltn (v := .ty "str") rfl B.str boot_str rfl))) (ss_one (s_ret (pd_and (pd_isT KT.str rfl B.isinstance (pd_var 0 (pv 0)) (pe_bltn (v := .ty "str") rfl B.str boot_str rfl)) (pd_one (pd_cmp (eqA W.u) k_eq (pd_var 0 (pv 0)) (pd_var 1 (pv 1)) (nomark _)))))) ss_nil)
 (ss_one (s_ret (pd_and (pd_isT KT.int rfl B.isinstance (pd_var 0 (pv 0)) (pe_bltn (v := .ty "int") rfl B.int boot_int rfl)) (pd_and (pd_not (pd_isT KT.bool rfl B.isinstance (pd_var 0 (pv 0)) (pe_bltn (v := .ty "bool") rfl B.bool boot_bool rfl))) (pd_one (pd_cmp (eqA W.u) k_eq (pd_var 0 (pv 0)) (pd_var 1 (pv 1)) (nomark _)))))))))
theorem ok_law_alike (F : Fn K mg "_law_alike" s_law_alike ["found", "due"] f fd) (B : Bt mg) (KT : Kt K) (C : Ct K mg) (R : Rt K mg) (ET : Et K mg)  : ∀ n : Nat, CanM P w K mg base (k + 1 + n) "_law_alike" ["found", "due"] (m_law_alike n)
  | 0 => fn_pure F sc_law_alike fun cdv A outer s H E G W WR => ss_no
  | n + 1 => st_law_alike (k := k + 1 + n) F B KT C R ET  (c_law_alike := ok_law_alike F B KT C R ET  n)
theorem ok_law (F : Fn K mg "law" s_law ["script"] f fd) (B : Bt mg) (KT : Kt K) (C : Ct K mg) (R : Rt K mg) (ET : Et K mg) (c_law_told : CanM P w K mg base k "_law_told" ["word", "weights", "kids"] m_law_told) (c_law_knot : CanM P w K mg base k "_law_knot" ["pile", "cell"] m_law_knot) (c_law_alike : CanM P w K mg base k "_law_alike" ["found", "due"] (m_law_alike 24)) : FnOk P w K mg base (CX1 P w) (k + 1) f fd ["script"] (spM K mg 1 m_law) :=
  fn_ok F sc_law fun cdv A outer s H E G W WR => (ss_cons (s_own (i := 1) sc_law.nd rfl (Or.inl rfl) (pf_lst as_nil))
 (ss_cons (s_for W.own W.calm (i_seq (PEf.d (pf_cat (PEf.d (pf_lst (as_cons (pd_c pe_int fun _ => .int _) as_nil star_c))) (PEf.d (pf_slice (pd_var 0 (pv 0)) od_none (od_some (pd_c pe_int fun _ => .int _))))))) (g_name (i := 2) sc_law.nd rfl (Or.inl rfl)) gne_name (ss_one (s_if (PTd.frz (PWd.pt (w_and (tst op_lt k_lt (pd_op op_modN k_mod (pd_var 2 (pv 2)) (pd_c pe_int fun _ => .int _)) (pd_c pe_int fun _ => .int _) (nomark _)) (w_and1 (tst op_lt k_lt (pd_callB call_len_seq kb_len rfl B.len PySem.boot_len (as_cons (pd_var 1 (pv 1)) as_nil star_nm)) (pd_c pe_int fun _ => .int _) (nomark _)))))) (ss_cons (s_set (i := 3) sc_law.nd rfl (Or.inl rfl) (pd_ix ix_both k_ix (PEf.d (pf_lst (as_cons (pd_op op_sub k_sub (pd_op op_modN k_mod (pd_op op_divA k_div (pd_var 2 (pv 2)) (pd_c pe_int fun _ => .int _)) (pd_c pe_int fun _ => .int _)) (pd_c pe_int fun _ => .int _)) (as_cons (pd_op op_addA k_add (pd_op op_sub k_sub (pd_op op_powA k_pow (pd_c pe_int fun _ => .int _) (pd_c pe_int fun _ => .int _)) (pd_c pe_int fun _ => .int _)) (pd_op op_modN k_mod (pd_op op_divA k_div (pd_var 2 (pv 2)) (pd_c pe_int fun _ => .int _)) (pd_c pe_int fun _ => .int _))) as_nil star_bin) star_bin))) (pd_op op_modN k_mod (pd_op op_divA k_div (pd_var 2 (pv 2)) (pd_c pe_int fun _ => .int _)) (pd_c pe_int fun _ => .int _)) (fun _ _ => rfl)))
 (ss_cons (s_set (i := 4) sc_law.nd rfl (Or.inl rfl) (pd_call W c_law_told rfl (as_cons (pd_c pe_non fun _ => .non) (as_cons (pd_var 3 (pv 3)) (as_cons (PEf.d (pf_lst as_nil)) as_nil star_lst) star_nm) star_c)))
 (ss_one (s_if (PWd.pt (w_or (tst op_lt k_lt (pd_var 3 (pv 3)) (pd_c pe_int fun _ => .int _) (nomark _)) (w_or1 (tst op_gt k_gt (pd_var 3 (pv 3)) (pd_op op_powA k_pow (pd_c pe_int fun _ => .int _) (pd_c pe_int fun _ => .int _)) (nomark _))))) (ss_one (s_if (tst (neA W.u) k_ne (pd_var 4 (pv 4)) (pd_c pe_str fun _ => .str _) (nomark _)) (ss_one (s_ret (pd_c pe_bl fun _ => .bl _))) ss_nil)) (ss_one (s_if (pt_n (pt_v (pd_call W c_law_alike rfl (as_cons (pd_var 4 (pv 4)) (as_cons (pd_tup (as_cons (pd_c pe_str fun _ => .str _) (as_cons (pd_var 3 (pv 3)) as_nil star_nm) star_c)) as_nil star_tup) star_nm)))) (ss_one (s_ret (pd_c pe_bl fun _ => .bl _))) (ss_one (s_app (i := 1) (pv 1) (pd_tup (as_cons (pd_var 4 (pv 4)) (as_cons (pd_c pe_int fun _ => .int _) (as_cons (pd_c pe_int fun _ => .int _) as_nil star_c) star_c) star_nm)))))))))) (s_pile (pg_tup W.calm (pgs_cons (pg_name (i := 4) sc_law.nd rfl (Or.inl rfl)) (pgs_cons (pg_name (i := 5) sc_law.nd rfl (Or.inl rfl)) (pgs_cons (pg_name (i := 6) sc_law.nd rfl (Or.inl rfl)) pgs_nil)))) (i := 1) sc_law.nd rfl (Or.inl rfl) (pd_call W c_law_knot rfl (as_cons (pd_var 1 (pv 1)) (as_cons (pd_op op_divA k_div (pd_var 2 (pv 2)) (pd_c pe_int fun _ => .int _)) as_nil star_bin) star_nm)) (pt_v (pd_isT KT.str rfl B.isinstance (pd_var 5 (pv 5)) (pe_bltn (v := .ty "str") rfl B.str boot_str rfl))) (PWd.pt (w_or (pt_n (pt_v (pd_isT KT.str rfl B.isinstance (pd_var 4 (pv 4)) (pe_bltn (v := .ty "str") rfl B.str boot_str rfl)))) (w_or1 (tst (neA W.u) k_ne (pd_var 4 (pv 4)) (pd_var 5 (pv 5)) (nomark _))))) (pt_n (pt_v (pd_call W c_law_alike rfl (as_cons (pd_var 4 (pv 4)) (as_cons (pd_var 5 (pv 5)) as_nil star_nm) star_nm))))
 (pf_slice (pd_var 1 (pv 1)) od_none (od_some (pd_op op_sub k_sub (pd_callB call_len_seq kb_len rfl B.len PySem.boot_len (as_cons (pd_var 1 (pv 1)) as_nil star_nm)) (pd_callB call_len_seq kb_len rfl B.len PySem.boot_len (as_cons (pd_var 6 (pv 6)) as_nil star_nm))))) (pv 1) (pd_tup (as_cons (pd_var 4 (pv 4)) (as_cons (pd_callB (call_sum W.calm) kb_sum rfl B.sum boot_sum2 (as_cons (PEf.d (pf_compB W sc_law.nd rfl (sc := defScope s_law) rfl rfl (by decide +kernel) (i_seq (pd_var 6 (pv 6))) (fun C2 s2 H2 fp2 G W => ⟨ts_nil, (pd_ix ix_both k_ix (pd_var 7 (pv 7)) (pd_c pe_int fun _ => .int _) (fun _ _ => rfl))⟩))) as_nil)) (as_cons (pd_op op_addA k_add (pd_c pe_int fun _ => .int _) (pd_callB (call_maxL W.calm) kb_maxL rfl B.max boot_max (as_cons (PEf.d (pf_compB W sc_law.nd rfl (sc := defScope s_law) rfl rfl (by decide +kernel) (i_seq (pd_var 6 (pv 6))) (fun C2 s2 H2 fp2 G W => ⟨ts_nil, (pd_ix ix_both k_ix (pd_var 7 (pv 7)) (pd_c pe_int fun _ => .int _) (fun _ _ => rfl))⟩))) as_nil))) as_nil star_bin) star_call) star_nm))))))
 (ss_one (s_ret (pd_c pe_bl fun _ => .bl _)))))
end

end Lw

namespace Lw
open PySem PySem.Spec PyProof.Rows L2 L3
theorem all_mk {l : PySem.W.OpenLaw} {w : World} {K : PySem.W.Frag} {h : Heap} {mg : Str → Option Value} {fa f0 f1 f2 f3 f4 f5 f6 f7 f8 f9 f10 f11 f12 f13 : Addr} (X : K.In h) (G : h.Ns mainGlobals mg) (hfa : mg "law" = some (.ref fa))
    {od0 an0 : Option Addr} {sl0 : Array (Option Value)} {oc0 kV0 dc0 pm0 cd0 ct0 : Value}
    {od1 an1 : Option Addr} {sl1 : Array (Option Value)} {oc1 kV1 dc1 pm1 cd1 ct1 : Value}
    {od2 an2 : Option Addr} {sl2 : Array (Option Value)} {oc2 kV2 dc2 pm2 cd2 ct2 : Value}
    {od3 an3 : Option Addr} {sl3 : Array (Option Value)} {oc3 kV3 dc3 pm3 cd3 ct3 : Value}
    {od4 an4 : Option Addr} {sl4 : Array (Option Value)} {oc4 kV4 dc4 pm4 cd4 ct4 : Value}
    {od5 an5 : Option Addr} {sl5 : Array (Option Value)} {oc5 kV5 dc5 pm5 cd5 ct5 : Value}
    {od6 an6 : Option Addr} {sl6 : Array (Option Value)} {oc6 kV6 dc6 pm6 cd6 ct6 : Value}
    {od7 an7 : Option Addr} {sl7 : Array (Option Value)} {oc7 kV7 dc7 pm7 cd7 ct7 : Value}
    {od8 an8 : Option Addr} {sl8 : Array (Option Value)} {oc8 kV8 dc8 pm8 cd8 ct8 : Value}
    {od9 an9 : Option Addr} {sl9 : Array (Option Value)} {oc9 kV9 dc9 pm9 cd9 ct9 : Value}
    {od10 an10 : Option Addr} {sl10 : Array (Option Value)} {oc10 kV10 dc10 pm10 cd10 ct10 : Value}
    {od11 an11 : Option Addr} {sl11 : Array (Option Value)} {oc11 kV11 dc11 pm11 cd11 ct11 : Value}
    {od12 an12 : Option Addr} {sl12 : Array (Option Value)} {oc12 kV12 dc12 pm12 cd12 ct12 : Value}
    {od13 an13 : Option Addr} {sl13 : Array (Option Value)} {oc13 kV13 dc13 pm13 cd13 ct13 : Value}
    (a0 : PySem.W.nsIn K mainGlobals "refuse_way" = some (some (.ref f0))) (l0 : K.lookup f0 = some ⟨oc0, od0, .func (PySem.W.fnOf "refuse_way" "refuse_way" (defArgs s_refuse_way) (defBody s_refuse_way) (defScope s_refuse_way) .none kV0 dc0 pm0 an0 cd0 ct0), sl0⟩) (c0 : PySem.W.codeIn K cd0 "refuse_way" = true) (k0 : PySem.W.keepIn K (.ref f0) = true)
    (a1 : PySem.W.nsIn K mainGlobals "refuse_weights" = some (some (.ref f1))) (l1 : K.lookup f1 = some ⟨oc1, od1, .func (PySem.W.fnOf "refuse_weights" "refuse_weights" (defArgs s_refuse_weights) (defBody s_refuse_weights) (defScope s_refuse_weights) .none kV1 dc1 pm1 an1 cd1 ct1), sl1⟩) (c1 : PySem.W.codeIn K cd1 "refuse_weights" = true) (k1 : PySem.W.keepIn K (.ref f1) = true)
    (a2 : PySem.W.nsIn K mainGlobals "boat" = some (some (.ref f2))) (l2 : K.lookup f2 = some ⟨oc2, od2, .func (PySem.W.fnOf "boat" "boat" (defArgs s_boat) (defBody s_boat) (defScope s_boat) .none kV2 dc2 pm2 an2 cd2 ct2), sl2⟩) (c2 : PySem.W.codeIn K cd2 "boat" = true) (k2 : PySem.W.keepIn K (.ref f2) = true)
    (a3 : PySem.W.nsIn K mainGlobals "knot" = some (some (.ref f3))) (l3 : K.lookup f3 = some ⟨oc3, od3, .func (PySem.W.fnOf "knot" "knot" (defArgs s_knot) (defBody s_knot) (defScope s_knot) .none kV3 dc3 pm3 an3 cd3 ct3), sl3⟩) (c3 : PySem.W.codeIn K cd3 "knot" = true) (k3 : PySem.W.keepIn K (.ref f3) = true)
    (a4 : PySem.W.nsIn K mainGlobals "is_boat" = some (some (.ref f4))) (l4 : K.lookup f4 = some ⟨oc4, od4, .func (PySem.W.fnOf "is_boat" "is_boat" (defArgs s_is_boat) (defBody s_is_boat) (defScope s_is_boat) .none kV4 dc4 pm4 an4 cd4 ct4), sl4⟩) (c4 : PySem.W.codeIn K cd4 "is_boat" = true) (k4 : PySem.W.keepIn K (.ref f4) = true)
    (a5 : PySem.W.nsIn K mainGlobals "kids_of" = some (some (.ref f5))) (l5 : K.lookup f5 = some ⟨oc5, od5, .func (PySem.W.fnOf "kids_of" "kids_of" (defArgs s_kids_of) (defBody s_kids_of) (defScope s_kids_of) .none kV5 dc5 pm5 an5 cd5 ct5), sl5⟩) (c5 : PySem.W.codeIn K cd5 "kids_of" = true) (k5 : PySem.W.keepIn K (.ref f5) = true)
    (a6 : PySem.W.nsIn K mainGlobals "claims_of" = some (some (.ref f6))) (l6 : K.lookup f6 = some ⟨oc6, od6, .func (PySem.W.fnOf "claims_of" "claims_of" (defArgs s_claims_of) (defBody s_claims_of) (defScope s_claims_of) .none kV6 dc6 pm6 an6 cd6 ct6), sl6⟩) (c6 : PySem.W.codeIn K cd6 "claims_of" = true) (k6 : PySem.W.keepIn K (.ref f6) = true)
    (a7 : PySem.W.nsIn K mainGlobals "deep_of" = some (some (.ref f7))) (l7 : K.lookup f7 = some ⟨oc7, od7, .func (PySem.W.fnOf "deep_of" "deep_of" (defArgs s_deep_of) (defBody s_deep_of) (defScope s_deep_of) .none kV7 dc7 pm7 an7 cd7 ct7), sl7⟩) (c7 : PySem.W.codeIn K cd7 "deep_of" = true) (k7 : PySem.W.keepIn K (.ref f7) = true)
    (a8 : PySem.W.nsIn K mainGlobals "_law_alike" = some (some (.ref f8))) (l8 : K.lookup f8 = some ⟨oc8, od8, .func (PySem.W.fnOf "_law_alike" "_law_alike" (defArgs s_law_alike) (defBody s_law_alike) (defScope s_law_alike) .none kV8 dc8 pm8 an8 cd8 ct8), sl8⟩) (c8 : PySem.W.codeIn K cd8 "_law_alike" = true) (k8 : PySem.W.keepIn K (.ref f8) = true)
    (a9 : PySem.W.nsIn K mainGlobals "_law_told" = some (some (.ref f9))) (l9 : K.lookup f9 = some ⟨oc9, od9, .func (PySem.W.fnOf "_law_told" "_law_told" (defArgs s_law_told) (defBody s_law_told) (defScope s_law_told) .none kV9 dc9 pm9 an9 cd9 ct9), sl9⟩) (c9 : PySem.W.codeIn K cd9 "_law_told" = true) (k9 : PySem.W.keepIn K (.ref f9) = true)
    (a10 : PySem.W.nsIn K mainGlobals "_law_weights" = some (some (.ref f10))) (l10 : K.lookup f10 = some ⟨oc10, od10, .func (PySem.W.fnOf "_law_weights" "_law_weights" (defArgs s_law_weights) (defBody s_law_weights) (defScope s_law_weights) .none kV10 dc10 pm10 an10 cd10 ct10), sl10⟩) (c10 : PySem.W.codeIn K cd10 "_law_weights" = true) (k10 : PySem.W.keepIn K (.ref f10) = true)
    (a11 : PySem.W.nsIn K mainGlobals "_law_due" = some (some (.ref f11))) (l11 : K.lookup f11 = some ⟨oc11, od11, .func (PySem.W.fnOf "_law_due" "_law_due" (defArgs s_law_due) (defBody s_law_due) (defScope s_law_due) .none kV11 dc11 pm11 an11 cd11 ct11), sl11⟩) (c11 : PySem.W.codeIn K cd11 "_law_due" = true) (k11 : PySem.W.keepIn K (.ref f11) = true)
    (a12 : PySem.W.nsIn K mainGlobals "_law_knot" = some (some (.ref f12))) (l12 : K.lookup f12 = some ⟨oc12, od12, .func (PySem.W.fnOf "_law_knot" "_law_knot" (defArgs s_law_knot) (defBody s_law_knot) (defScope s_law_knot) .none kV12 dc12 pm12 an12 cd12 ct12), sl12⟩) (c12 : PySem.W.codeIn K cd12 "_law_knot" = true) (k12 : PySem.W.keepIn K (.ref f12) = true)
    (a13 : PySem.W.nsIn K mainGlobals "law" = some (some (.ref f13))) (l13 : K.lookup f13 = some ⟨oc13, od13, .func (PySem.W.fnOf "law" "law" (defArgs s_law) (defBody s_law) (defScope s_law) .none kV13 dc13 pm13 an13 cd13 ct13), sl13⟩) (c13 : PySem.W.codeIn K cd13 "law" = true) (k13 : PySem.W.keepIn K (.ref f13) = true)
    (z_len : PySem.W.nsIn K mainGlobals "len" = some none)
    (z_tuple : PySem.W.nsIn K mainGlobals "tuple" = some none)
    (z_max : PySem.W.nsIn K mainGlobals "max" = some none)
    (z_isinstance : PySem.W.nsIn K mainGlobals "isinstance" = some none)
    (z_str : PySem.W.nsIn K mainGlobals "str" = some none)
    (z_range : PySem.W.nsIn K mainGlobals "range" = some none)
    (z_int : PySem.W.nsIn K mainGlobals "int" = some none)
    (z_bool : PySem.W.nsIn K mainGlobals "bool" = some none)
    (z_sum : PySem.W.nsIn K mainGlobals "sum" = some none)
    (z_min : PySem.W.nsIn K mainGlobals "min" = some none)
    (z_list : PySem.W.nsIn K mainGlobals "list" = some none)
    (KT : Kt K) (CC : ∀ (h : Heap) (mg : Str → Option Value), K.In h → h.Ns mainGlobals mg → Ct K mg) (RR : ∀ (h : Heap) (mg : Str → Option Value), K.In h → h.Ns mainGlobals mg → Rt K mg) (EE : ∀ (h : Heap) (mg : Str → Option Value), K.In h → h.Ns mainGlobals mg → Et K mg)
    : ∃ fd : FuncData, (∀ (s : Shared) (v : Value), BindsTo s fd ⟨[v], []⟩ [("script", v)]) ∧ ∀ base : Heap, K.In base → base.Ns mainGlobals mg → FnOk l.prog w K mg base (CX1 l.prog w) 26 fa fd ["script"] (spL K) := by
  have e := hfa.symm.trans (PySem.W.mg_of X G a13)
  cases e
  have B : Bt mg := ⟨PySem.W.mg_none_of X G z_len, PySem.W.mg_none_of X G z_tuple, PySem.W.mg_none_of X G z_max, PySem.W.mg_none_of X G z_isinstance, PySem.W.mg_none_of X G z_str, PySem.W.mg_none_of X G z_range, PySem.W.mg_none_of X G z_int, PySem.W.mg_none_of X G z_bool, PySem.W.mg_none_of X G z_sum, PySem.W.mg_none_of X G z_min, PySem.W.mg_none_of X G z_list⟩
  have C : Ct K mg := CC h mg X G
  have R : Rt K mg := RR h mg X G
  have ET : Et K mg := EE h mg X G
  refine ⟨PySem.W.fnOf "law" "law" (defArgs s_law) (defBody s_law) (defScope s_law) .none kV13 dc13 pm13 an13 cd13 ct13, fun s v => .of_eq rfl, fun base _ _ => ?_⟩
  have F0 : Fn K mg "refuse_way" s_refuse_way ["way"] _ _ := ⟨fun_mk (st := s_refuse_way) l0 c0 k0, (fun_mk (st := s_refuse_way) l0 c0 k0).binds (ps := ["way"]) fun _ _ _ _ _ _ us hl => by obtain ⟨_, rfl⟩ := L3.ln1 hl; rfl, k0, PySem.W.mg_of X G a0⟩
  have c_refuse_way := ok_refuse_way (P := l.prog) (w := w) (base := base) (k := 0) F0 B KT C R ET 
  have F1 : Fn K mg "refuse_weights" s_refuse_weights ["way", "weights", "many"] _ _ := ⟨fun_mk (st := s_refuse_weights) l1 c1 k1, (fun_mk (st := s_refuse_weights) l1 c1 k1).binds (ps := ["way", "weights", "many"]) fun _ _ _ _ _ _ us hl => by obtain ⟨_, _, _, rfl⟩ := L3.ln3 hl; rfl, k1, PySem.W.mg_of X G a1⟩
  have c_refuse_weights := ok_refuse_weights (P := l.prog) (w := w) (base := base) (k := 0) F1 B KT C R ET 
  have F2 : Fn K mg "boat" s_boat ["claim"] _ _ := ⟨fun_mk (st := s_boat) l2 c2 k2, (fun_mk (st := s_boat) l2 c2 k2).binds (ps := ["claim"]) fun _ _ _ _ _ _ us hl => by obtain ⟨_, rfl⟩ := L3.ln1 hl; rfl, k2, PySem.W.mg_of X G a2⟩
  have c_boat := ok_boat (P := l.prog) (w := w) (base := base) (k := 0) F2 B KT C R ET 
  have F4 : Fn K mg "is_boat" s_is_boat ["custom"] _ _ := ⟨fun_mk (st := s_is_boat) l4 c4 k4, (fun_mk (st := s_is_boat) l4 c4 k4).binds (ps := ["custom"]) fun _ _ _ _ _ _ us hl => by obtain ⟨_, rfl⟩ := L3.ln1 hl; rfl, k4, PySem.W.mg_of X G a4⟩
  have c_is_boat := ok_is_boat (P := l.prog) (w := w) (base := base) (k := 0) F4 B KT C R ET 
  have F10 : Fn K mg "_law_weights" s_law_weights ["word", "cell", "many"] _ _ := ⟨fun_mk (st := s_law_weights) l10 c10 k10, (fun_mk (st := s_law_weights) l10 c10 k10).binds (ps := ["word", "cell", "many"]) fun _ _ _ _ _ _ us hl => by obtain ⟨_, _, _, rfl⟩ := L3.ln3 hl; rfl, k10, PySem.W.mg_of X G a10⟩
  have c_law_weights := ok_law_weights (P := l.prog) (w := w) (base := base) (k := 0) F10 B KT C R ET 
  have F11 : Fn K mg "_law_due" s_law_due ["word", "weights", "kids"] _ _ := ⟨fun_mk (st := s_law_due) l11 c11 k11, (fun_mk (st := s_law_due) l11 c11 k11).binds (ps := ["word", "weights", "kids"]) fun _ _ _ _ _ _ us hl => by obtain ⟨_, _, _, rfl⟩ := L3.ln3 hl; rfl, k11, PySem.W.mg_of X G a11⟩
  have c_law_due := ok_law_due (P := l.prog) (w := w) (base := base) (k := 0) F11 B KT C R ET 
  have F5 : Fn K mg "kids_of" s_kids_of ["custom"] _ _ := ⟨fun_mk (st := s_kids_of) l5 c5 k5, (fun_mk (st := s_kids_of) l5 c5 k5).binds (ps := ["custom"]) fun _ _ _ _ _ _ us hl => by obtain ⟨_, rfl⟩ := L3.ln1 hl; rfl, k5, PySem.W.mg_of X G a5⟩
  have c_kids_of := ok_kids_of (P := l.prog) (w := w) (base := base) (k := 1) F5 B KT C R ET (c_is_boat := c_is_boat.mono (by decide))
  have F6 : Fn K mg "claims_of" s_claims_of ["custom"] _ _ := ⟨fun_mk (st := s_claims_of) l6 c6 k6, (fun_mk (st := s_claims_of) l6 c6 k6).binds (ps := ["custom"]) fun _ _ _ _ _ _ us hl => by obtain ⟨_, rfl⟩ := L3.ln1 hl; rfl, k6, PySem.W.mg_of X G a6⟩
  have c_claims_of := ok_claims_of (P := l.prog) (w := w) (base := base) (k := 2) F6 B KT C R ET (c_is_boat := c_is_boat.mono (by decide)) (c_kids_of := c_kids_of.mono (by decide)) 10
  have F7 : Fn K mg "deep_of" s_deep_of ["custom"] _ _ := ⟨fun_mk (st := s_deep_of) l7 c7 k7, (fun_mk (st := s_deep_of) l7 c7 k7).binds (ps := ["custom"]) fun _ _ _ _ _ _ us hl => by obtain ⟨_, rfl⟩ := L3.ln1 hl; rfl, k7, PySem.W.mg_of X G a7⟩
  have c_deep_of := ok_deep_of (P := l.prog) (w := w) (base := base) (k := 2) F7 B KT C R ET (c_kids_of := c_kids_of.mono (by decide)) 10
  have F3 : Fn K mg "knot" s_knot ["way", "weights", "kids"] _ _ := ⟨fun_mk (st := s_knot) l3 c3 k3, (fun_mk (st := s_knot) l3 c3 k3).binds (ps := ["way", "weights", "kids"]) fun _ _ _ _ _ _ us hl => by obtain ⟨_, _, _, rfl⟩ := L3.ln3 hl; rfl, k3, PySem.W.mg_of X G a3⟩
  have c_knot := ok_knot (P := l.prog) (w := w) (base := base) (k := 13) F3 B KT C R ET (c_refuse_way := c_refuse_way.mono (by decide)) (c_refuse_weights := c_refuse_weights.mono (by decide)) (c_deep_of := c_deep_of.mono (by decide)) (c_claims_of := c_claims_of.mono (by decide))
  have F9 : Fn K mg "_law_told" s_law_told ["word", "weights", "kids"] _ _ := ⟨fun_mk (st := s_law_told) l9 c9 k9, (fun_mk (st := s_law_told) l9 c9 k9).binds (ps := ["word", "weights", "kids"]) fun _ _ _ _ _ _ us hl => by obtain ⟨_, _, _, rfl⟩ := L3.ln3 hl; rfl, k9, PySem.W.mg_of X G a9⟩
  have c_law_told := ok_law_told (P := l.prog) (w := w) (base := base) (k := 14) F9 B KT C R ET (c_boat := c_boat.mono (by decide)) (c_knot := c_knot.mono (by decide))
  have F12 : Fn K mg "_law_knot" s_law_knot ["pile", "cell"] _ _ := ⟨fun_mk (st := s_law_knot) l12 c12 k12, (fun_mk (st := s_law_knot) l12 c12 k12).binds (ps := ["pile", "cell"]) fun _ _ _ _ _ _ us hl => by obtain ⟨_, _, rfl⟩ := L3.ln2 hl; rfl, k12, PySem.W.mg_of X G a12⟩
  have c_law_knot := ok_law_knot (P := l.prog) (w := w) (base := base) (k := 15) F12 B KT C R ET (c_law_weights := c_law_weights.mono (by decide)) (c_law_due := c_law_due.mono (by decide)) (c_law_told := c_law_told.mono (by decide))
  have F8 : Fn K mg "_law_alike" s_law_alike ["found", "due"] _ _ := ⟨fun_mk (st := s_law_alike) l8 c8 k8, (fun_mk (st := s_law_alike) l8 c8 k8).binds (ps := ["found", "due"]) fun _ _ _ _ _ _ us hl => by obtain ⟨_, _, rfl⟩ := L3.ln2 hl; rfl, k8, PySem.W.mg_of X G a8⟩
  have c_law_alike := ok_law_alike (P := l.prog) (w := w) (base := base) (k := 0) F8 B KT C R ET  24
  have F13 : Fn K mg "law" s_law ["script"] _ _ := ⟨fun_mk (st := s_law) l13 c13 k13, (fun_mk (st := s_law) l13 c13 k13).binds (ps := ["script"]) fun _ _ _ _ _ _ us hl => by obtain ⟨_, rfl⟩ := L3.ln1 hl; rfl, k13, PySem.W.mg_of X G a13⟩
  have c_law := ok_law (P := l.prog) (w := w) (base := base) (k := 25) F13 B KT C R ET (c_law_told := c_law_told.mono (by decide)) (c_law_knot := c_law_knot.mono (by decide)) (c_law_alike := c_law_alike.mono (by decide))
  exact law_at c_law law_true
end Lw
open PySem PySem.W PyProof.Rows
set_option maxRecDepth 100000 in
set_option maxHeartbeats 0 in
theorem PySem.Challenge.cw_catchhall_k23_boats_and_knots_holds : PySem.Challenge.rw_catchhall_k23_boats_and_knots.Holds := by
  w_on; o_law; k_head; (case hw => w_witness2)
  k_fill
  refine L3.walk (l := PySem.Challenge.rw_catchhall_k23_boats_and_knots) (k := 26) rfl rfl ⟨rfl, by decide, by decide⟩ (fun w h Y => PySem.W.kIn_of Y) ?F
  case F =>
    intro w mg fa h KX G hmg
    refine' Lw.all_mk KX G hmg ?a0 ?l0 ?c0 ?k0 ?a1 ?l1 ?c1 ?k1 ?a2 ?l2 ?c2 ?k2 ?a3 ?l3 ?c3 ?k3 ?a4 ?l4 ?c4 ?k4 ?a5 ?l5 ?c5 ?k5 ?a6 ?l6 ?c6 ?k6 ?a7 ?l7 ?c7 ?k7 ?a8 ?l8 ?c8 ?k8 ?a9 ?l9 ?c9 ?k9 ?a10 ?l10 ?c10 ?k10 ?a11 ?l11 ?c11 ?k11 ?a12 ?l12 ?c12 ?k12 ?a13 ?l13 ?c13 ?k13 ?z_len ?z_tuple ?z_max ?z_isinstance ?z_str ?z_range ?z_int ?z_bool ?z_sum ?z_min ?z_list ?KT ?CC ?RR ?EE
    (case a0 => k_is)
    (case l0 => k_is)
    (case c0 => k_is)
    (case k0 => k_is)
    (case a1 => k_is)
    (case l1 => k_is)
    (case c1 => k_is)
    (case k1 => k_is)
    (case a2 => k_is)
    (case l2 => k_is)
    (case c2 => k_is)
    (case k2 => k_is)
    (case a3 => k_is)
    (case l3 => k_is)
    (case c3 => k_is)
    (case k3 => k_is)
    (case a4 => k_is)
    (case l4 => k_is)
    (case c4 => k_is)
    (case k4 => k_is)
    (case a5 => k_is)
    (case l5 => k_is)
    (case c5 => k_is)
    (case k5 => k_is)
    (case a6 => k_is)
    (case l6 => k_is)
    (case c6 => k_is)
    (case k6 => k_is)
    (case a7 => k_is)
    (case l7 => k_is)
    (case c7 => k_is)
    (case k7 => k_is)
    (case a8 => k_is)
    (case l8 => k_is)
    (case c8 => k_is)
    (case k8 => k_is)
    (case a9 => k_is)
    (case l9 => k_is)
    (case c9 => k_is)
    (case k9 => k_is)
    (case a10 => k_is)
    (case l10 => k_is)
    (case c10 => k_is)
    (case k10 => k_is)
    (case a11 => k_is)
    (case l11 => k_is)
    (case c11 => k_is)
    (case k11 => k_is)
    (case a12 => k_is)
    (case l12 => k_is)
    (case c12 => k_is)
    (case k12 => k_is)
    (case a13 => k_is)
    (case l13 => k_is)
    (case c13 => k_is)
    (case k13 => k_is)
    (case z_len => k_is)
    (case z_tuple => k_is)
    (case z_max => k_is)
    (case z_isinstance => k_is)
    (case z_str => k_is)
    (case z_range => k_is)
    (case z_int => k_is)
    (case z_bool => k_is)
    (case z_sum => k_is)
    (case z_min => k_is)
    (case z_list => k_is)
    (case KT => refine' ⟨⟨?t0_0, ?t0_1, ?t0_2, ?t0_3, ?t0_4, ?t0_5⟩, ⟨?t1_0, ?t1_1, ?t1_2, ?t1_3, ?t1_4, ?t1_5⟩, ⟨?t2_0, ?t2_1, ?t2_2, ?t2_3, ?t2_4, ?t2_5⟩, ⟨?t3_0, ?t3_1, ?t3_2, ?t3_3, ?t3_4, ?t3_5⟩⟩ <;> (first | kit_is | (show _ = some true; kit_is) | (show _ = some false; kit_is) | rfl | decide +kernel))
    (case CC =>
      intro h mg X G
      refine' Lw.ct_mk X G ?n_BOAT ?n_DEEPEST ?n_MOST_BOATS ?n_WEIGHTED ?pWEIGHTED0_l ?n_CONTRARY ?t_CONTRARY
      (case n_BOAT => first | k_is | kit_is | k_exc | rfl | decide +kernel | kernel_rfl)
      (case n_DEEPEST => first | k_is | kit_is | k_exc | rfl | decide +kernel | kernel_rfl)
      (case n_MOST_BOATS => first | k_is | kit_is | k_exc | rfl | decide +kernel | kernel_rfl)
      (case n_WEIGHTED => first | k_is | kit_is | k_exc | rfl | decide +kernel | kernel_rfl)
      (case pWEIGHTED0_l => first | k_is | kit_is | k_exc | rfl | decide +kernel | kernel_rfl)
      (case n_CONTRARY => first | k_is | kit_is | k_exc | rfl | decide +kernel | kernel_rfl)
      (case t_CONTRARY => first | k_is | kit_is | k_exc | rfl | decide +kernel | kernel_rfl))
    (case RR =>
      intro h mg X G
      refine' Lw.rt_mk X G ?n_BadClaim ?x_BadClaim ?n_BadWay ?x_BadWay ?n_BadWeights ?x_BadWeights ?n_TooMany ?x_TooMany
      (case n_BadClaim => first | k_is | kit_is | k_exc | rfl | decide +kernel | kernel_rfl)
      (case x_BadClaim => first | k_is | kit_is | k_exc | rfl | decide +kernel | kernel_rfl)
      (case n_BadWay => first | k_is | kit_is | k_exc | rfl | decide +kernel | kernel_rfl)
      (case x_BadWay => first | k_is | kit_is | k_exc | rfl | decide +kernel | kernel_rfl)
      (case n_BadWeights => first | k_is | kit_is | k_exc | rfl | decide +kernel | kernel_rfl)
      (case x_BadWeights => first | k_is | kit_is | k_exc | rfl | decide +kernel | kernel_rfl)
      (case n_TooMany => first | k_is | kit_is | k_exc | rfl | decide +kernel | kernel_rfl)
      (case x_TooMany => first | k_is | kit_is | k_exc | rfl | decide +kernel | kernel_rfl))
    (case EE =>
      intro h mg X G
      refine' Lw.et_mk X G ?n_CatchError ?n_BadClaim ?n_BadWay ?n_BadWeights ?n_TooMany ?n_Unlike ?n_Outside ?n_NoText ?n_NoFraction ?n_NoBoat ?n_BadLine ?n_BadCatch ?z_ValueError ?ce1 ?ce2 ?ce3 ?g5 ?g6 ?e1_BadClaim ?e2_BadClaim ?e3_BadClaim ?e4_BadClaim ?e7_BadClaim ?e8_BadClaim ?em_BadClaim ?k_BadClaim_TooMany ?k_BadClaim_BadWeights ?k_BadClaim_BadWay ?k_BadClaim_BadClaim ?k_BadClaim_ValueError ?k_BadClaim_Unlike ?k_BadClaim_Outside ?k_BadClaim_NoText ?k_BadClaim_NoFraction ?k_BadClaim_NoBoat ?k_BadClaim_BadLine ?k_BadClaim_BadCatch ?e1_BadWay ?e2_BadWay ?e3_BadWay ?e4_BadWay ?e7_BadWay ?e8_BadWay ?em_BadWay ?k_BadWay_TooMany ?k_BadWay_BadWeights ?k_BadWay_BadWay ?k_BadWay_BadClaim ?k_BadWay_ValueError ?k_BadWay_Unlike ?k_BadWay_Outside ?k_BadWay_NoText ?k_BadWay_NoFraction ?k_BadWay_NoBoat ?k_BadWay_BadLine ?k_BadWay_BadCatch ?e1_BadWeights ?e2_BadWeights ?e3_BadWeights ?e4_BadWeights ?e7_BadWeights ?e8_BadWeights ?em_BadWeights ?k_BadWeights_TooMany ?k_BadWeights_BadWeights ?k_BadWeights_BadWay ?k_BadWeights_BadClaim ?k_BadWeights_ValueError ?k_BadWeights_Unlike ?k_BadWeights_Outside ?k_BadWeights_NoText ?k_BadWeights_NoFraction ?k_BadWeights_NoBoat ?k_BadWeights_BadLine ?k_BadWeights_BadCatch ?e1_TooMany ?e2_TooMany ?e3_TooMany ?e4_TooMany ?e7_TooMany ?e8_TooMany ?em_TooMany ?k_TooMany_TooMany ?k_TooMany_BadWeights ?k_TooMany_BadWay ?k_TooMany_BadClaim ?k_TooMany_ValueError ?k_TooMany_Unlike ?k_TooMany_Outside ?k_TooMany_NoText ?k_TooMany_NoFraction ?k_TooMany_NoBoat ?k_TooMany_BadLine ?k_TooMany_BadCatch
      (case n_CatchError => first | k_is | kit_is | k_exc | rfl | decide +kernel | kernel_rfl)
      (case n_BadClaim => first | k_is | kit_is | k_exc | rfl | decide +kernel | kernel_rfl)
      (case n_BadWay => first | k_is | kit_is | k_exc | rfl | decide +kernel | kernel_rfl)
      (case n_BadWeights => first | k_is | kit_is | k_exc | rfl | decide +kernel | kernel_rfl)
      (case n_TooMany => first | k_is | kit_is | k_exc | rfl | decide +kernel | kernel_rfl)
      (case n_Unlike => first | k_is | kit_is | k_exc | rfl | decide +kernel | kernel_rfl)
      (case n_Outside => first | k_is | kit_is | k_exc | rfl | decide +kernel | kernel_rfl)
      (case n_NoText => first | k_is | kit_is | k_exc | rfl | decide +kernel | kernel_rfl)
      (case n_NoFraction => first | k_is | kit_is | k_exc | rfl | decide +kernel | kernel_rfl)
      (case n_NoBoat => first | k_is | kit_is | k_exc | rfl | decide +kernel | kernel_rfl)
      (case n_BadLine => first | k_is | kit_is | k_exc | rfl | decide +kernel | kernel_rfl)
      (case n_BadCatch => first | k_is | kit_is | k_exc | rfl | decide +kernel | kernel_rfl)
      (case z_ValueError => first | k_is | kit_is | k_exc | rfl | decide +kernel | kernel_rfl)
      (case ce1 => first | k_is | kit_is | k_exc | rfl | decide +kernel | kernel_rfl)
      (case ce2 => first | k_is | kit_is | k_exc | rfl | decide +kernel | kernel_rfl)
      (case ce3 => first | k_is | kit_is | k_exc | rfl | decide +kernel | kernel_rfl)
      (case g5 => first | k_is | kit_is | k_exc | rfl | decide +kernel | kernel_rfl)
      (case g6 => first | k_is | kit_is | k_exc | rfl | decide +kernel | kernel_rfl)
      (case e1_BadClaim => first | k_is | kit_is | k_exc | rfl | decide +kernel | kernel_rfl)
      (case e2_BadClaim => first | k_is | kit_is | k_exc | rfl | decide +kernel | kernel_rfl)
      (case e3_BadClaim => first | k_is | kit_is | k_exc | rfl | decide +kernel | kernel_rfl)
      (case e4_BadClaim => first | k_is | kit_is | k_exc | rfl | decide +kernel | kernel_rfl)
      (case e7_BadClaim => first | k_is | kit_is | k_exc | rfl | decide +kernel | kernel_rfl)
      (case e8_BadClaim => first | k_is | kit_is | k_exc | rfl | decide +kernel | kernel_rfl)
      (case em_BadClaim => first | k_is | kit_is | k_exc | rfl | decide +kernel | kernel_rfl)
      (case k_BadClaim_TooMany => first | k_is | kit_is | k_exc | rfl | decide +kernel | kernel_rfl)
      (case k_BadClaim_BadWeights => first | k_is | kit_is | k_exc | rfl | decide +kernel | kernel_rfl)
      (case k_BadClaim_BadWay => first | k_is | kit_is | k_exc | rfl | decide +kernel | kernel_rfl)
      (case k_BadClaim_BadClaim => first | k_is | kit_is | k_exc | rfl | decide +kernel | kernel_rfl)
      (case k_BadClaim_ValueError => first | k_is | kit_is | k_exc | rfl | decide +kernel | kernel_rfl)
      (case k_BadClaim_Unlike => first | k_is | kit_is | k_exc | rfl | decide +kernel | kernel_rfl)
      (case k_BadClaim_Outside => first | k_is | kit_is | k_exc | rfl | decide +kernel | kernel_rfl)
      (case k_BadClaim_NoText => first | k_is | kit_is | k_exc | rfl | decide +kernel | kernel_rfl)
      (case k_BadClaim_NoFraction => first | k_is | kit_is | k_exc | rfl | decide +kernel | kernel_rfl)
      (case k_BadClaim_NoBoat => first | k_is | kit_is | k_exc | rfl | decide +kernel | kernel_rfl)
      (case k_BadClaim_BadLine => first | k_is | kit_is | k_exc | rfl | decide +kernel | kernel_rfl)
      (case k_BadClaim_BadCatch => first | k_is | kit_is | k_exc | rfl | decide +kernel | kernel_rfl)
      (case e1_BadWay => first | k_is | kit_is | k_exc | rfl | decide +kernel | kernel_rfl)
      (case e2_BadWay => first | k_is | kit_is | k_exc | rfl | decide +kernel | kernel_rfl)
      (case e3_BadWay => first | k_is | kit_is | k_exc | rfl | decide +kernel | kernel_rfl)
      (case e4_BadWay => first | k_is | kit_is | k_exc | rfl | decide +kernel | kernel_rfl)
      (case e7_BadWay => first | k_is | kit_is | k_exc | rfl | decide +kernel | kernel_rfl)
      (case e8_BadWay => first | k_is | kit_is | k_exc | rfl | decide +kernel | kernel_rfl)
      (case em_BadWay => first | k_is | kit_is | k_exc | rfl | decide +kernel | kernel_rfl)
      (case k_BadWay_TooMany => first | k_is | kit_is | k_exc | rfl | decide +kernel | kernel_rfl)
      (case k_BadWay_BadWeights => first | k_is | kit_is | k_exc | rfl | decide +kernel | kernel_rfl)
      (case k_BadWay_BadWay => first | k_is | kit_is | k_exc | rfl | decide +kernel | kernel_rfl)
      (case k_BadWay_BadClaim => first | k_is | kit_is | k_exc | rfl | decide +kernel | kernel_rfl)
      (case k_BadWay_ValueError => first | k_is | kit_is | k_exc | rfl | decide +kernel | kernel_rfl)
      (case k_BadWay_Unlike => first | k_is | kit_is | k_exc | rfl | decide +kernel | kernel_rfl)
      (case k_BadWay_Outside => first | k_is | kit_is | k_exc | rfl | decide +kernel | kernel_rfl)
      (case k_BadWay_NoText => first | k_is | kit_is | k_exc | rfl | decide +kernel | kernel_rfl)
      (case k_BadWay_NoFraction => first | k_is | kit_is | k_exc | rfl | decide +kernel | kernel_rfl)
      (case k_BadWay_NoBoat => first | k_is | kit_is | k_exc | rfl | decide +kernel | kernel_rfl)
      (case k_BadWay_BadLine => first | k_is | kit_is | k_exc | rfl | decide +kernel | kernel_rfl)
      (case k_BadWay_BadCatch => first | k_is | kit_is | k_exc | rfl | decide +kernel | kernel_rfl)
      (case e1_BadWeights => first | k_is | kit_is | k_exc | rfl | decide +kernel | kernel_rfl)
      (case e2_BadWeights => first | k_is | kit_is | k_exc | rfl | decide +kernel | kernel_rfl)
      (case e3_BadWeights => first | k_is | kit_is | k_exc | rfl | decide +kernel | kernel_rfl)
      (case e4_BadWeights => first | k_is | kit_is | k_exc | rfl | decide +kernel | kernel_rfl)
      (case e7_BadWeights => first | k_is | kit_is | k_exc | rfl | decide +kernel | kernel_rfl)
      (case e8_BadWeights => first | k_is | kit_is | k_exc | rfl | decide +kernel | kernel_rfl)
      (case em_BadWeights => first | k_is | kit_is | k_exc | rfl | decide +kernel | kernel_rfl)
      (case k_BadWeights_TooMany => first | k_is | kit_is | k_exc | rfl | decide +kernel | kernel_rfl)
      (case k_BadWeights_BadWeights => first | k_is | kit_is | k_exc | rfl | decide +kernel | kernel_rfl)
      (case k_BadWeights_BadWay => first | k_is | kit_is | k_exc | rfl | decide +kernel | kernel_rfl)
      (case k_BadWeights_BadClaim => first | k_is | kit_is | k_exc | rfl | decide +kernel | kernel_rfl)
      (case k_BadWeights_ValueError => first | k_is | kit_is | k_exc | rfl | decide +kernel | kernel_rfl)
      (case k_BadWeights_Unlike => first | k_is | kit_is | k_exc | rfl | decide +kernel | kernel_rfl)
      (case k_BadWeights_Outside => first | k_is | kit_is | k_exc | rfl | decide +kernel | kernel_rfl)
      (case k_BadWeights_NoText => first | k_is | kit_is | k_exc | rfl | decide +kernel | kernel_rfl)
      (case k_BadWeights_NoFraction => first | k_is | kit_is | k_exc | rfl | decide +kernel | kernel_rfl)
      (case k_BadWeights_NoBoat => first | k_is | kit_is | k_exc | rfl | decide +kernel | kernel_rfl)
      (case k_BadWeights_BadLine => first | k_is | kit_is | k_exc | rfl | decide +kernel | kernel_rfl)
      (case k_BadWeights_BadCatch => first | k_is | kit_is | k_exc | rfl | decide +kernel | kernel_rfl)
      (case e1_TooMany => first | k_is | kit_is | k_exc | rfl | decide +kernel | kernel_rfl)
      (case e2_TooMany => first | k_is | kit_is | k_exc | rfl | decide +kernel | kernel_rfl)
      (case e3_TooMany => first | k_is | kit_is | k_exc | rfl | decide +kernel | kernel_rfl)
      (case e4_TooMany => first | k_is | kit_is | k_exc | rfl | decide +kernel | kernel_rfl)
      (case e7_TooMany => first | k_is | kit_is | k_exc | rfl | decide +kernel | kernel_rfl)
      (case e8_TooMany => first | k_is | kit_is | k_exc | rfl | decide +kernel | kernel_rfl)
      (case em_TooMany => first | k_is | kit_is | k_exc | rfl | decide +kernel | kernel_rfl)
      (case k_TooMany_TooMany => first | k_is | kit_is | k_exc | rfl | decide +kernel | kernel_rfl)
      (case k_TooMany_BadWeights => first | k_is | kit_is | k_exc | rfl | decide +kernel | kernel_rfl)
      (case k_TooMany_BadWay => first | k_is | kit_is | k_exc | rfl | decide +kernel | kernel_rfl)
      (case k_TooMany_BadClaim => first | k_is | kit_is | k_exc | rfl | decide +kernel | kernel_rfl)
      (case k_TooMany_ValueError => first | k_is | kit_is | k_exc | rfl | decide +kernel | kernel_rfl)
      (case k_TooMany_Unlike => first | k_is | kit_is | k_exc | rfl | decide +kernel | kernel_rfl)
      (case k_TooMany_Outside => first | k_is | kit_is | k_exc | rfl | decide +kernel | kernel_rfl)
      (case k_TooMany_NoText => first | k_is | kit_is | k_exc | rfl | decide +kernel | kernel_rfl)
      (case k_TooMany_NoFraction => first | k_is | kit_is | k_exc | rfl | decide +kernel | kernel_rfl)
      (case k_TooMany_NoBoat => first | k_is | kit_is | k_exc | rfl | decide +kernel | kernel_rfl)
      (case k_TooMany_BadLine => first | k_is | kit_is | k_exc | rfl | decide +kernel | kernel_rfl)
      (case k_TooMany_BadCatch => first | k_is | kit_is | k_exc | rfl | decide +kernel | kernel_rfl))

