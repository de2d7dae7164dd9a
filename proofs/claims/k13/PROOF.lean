import PyProof.Rows.All
import Wide.All
import OpenK.AllK
import Wide.FinOn
import Lean
import PyProof.EqAt
import PyProof.EqKinds
import PyProof.TupleCall
import PyProof.P3Eq
import PyProof.P3In
import PyProof.NeData
import KE.KSortTup
import KE.LcSums
import PyProof.Rows.TupAdd
import KE.KTryMore
import OpenK.KOwn
import PyProof.NsDelKeeps
import PyProof.ExcArgsOwn
import KE.KIsAll
import PyProof.FactsAll.tuple
import PyProof.ListMulRoad
import PyProof.ListRange
import PyProof.TupleOfSeq
import PySem.Challenge.RW_noticed_k13_changes_refused
set_option Elab.async false
set_option linter.all false
set_option maxRecDepth 100000
/-! THE HAND LAYER, for ints, bools, texts, own classes, LISTS and tuples (index, slices, in, append, pop ..), calls, loops. Paste it whole ahead of your own text; what your proof does not reach may be deleted. -/
namespace L2
open PySem PySem.Spec PyProof.Rows

/-- a key: an int or a str -/
noncomputable abbrev Key := Sum Int Str
noncomputable def keyIs : Key → Value → Bool
  | .inl k, v => Value.isInt k v
  | .inr x, v => Value.isStrOf x v
noncomputable def keyH (w : World) : Key → Int
  | .inl k => hashInt k
  | .inr x => hashStr w x
theorem keyIs_shape : ∀ {k : Key} {v : Value}, keyIs k v = true → (∃ i t, k = Sum.inl i ∧ v = Value.int i t) ∨ (∃ x t, k = Sum.inr x ∧ v = Value.str x t)
  | .inl i, v, h => by
    obtain ⟨t, e⟩ := Value.isInt_shape (k := i) (v := v) h
    exact .inl ⟨i, t, rfl, e⟩
  | .inr x, v, h => by
    obtain ⟨t, e⟩ := Value.isStrOf_shape (x := x) (v := v) h
    exact .inr ⟨x, t, rfl, e⟩
theorem key_ll (a b : Int) : decide ((Sum.inl a : Key) = Sum.inl b) = (a == b) := by
  by_cases e : a = b
  · subst e; simp
  · have h : ¬ (Sum.inl a : Key) = Sum.inl b := fun q => e (Sum.inl.inj q)
    rw [decide_eq_false h]
    exact (beq_eq_false_iff_ne.mpr e).symm
theorem key_rr (a b : Str) : decide ((Sum.inr a : Key) = Sum.inr b) = decide (a = b) := by
  by_cases e : a = b
  · subst e; simp
  · have h : ¬ (Sum.inr a : Key) = Sum.inr b := fun q => e (Sum.inr.inj q)
    rw [decide_eq_false h, decide_eq_false e]
theorem key_lr (a : Int) (b : Str) : decide ((Sum.inl a : Key) = Sum.inr b) = false := decide_eq_false (fun q => nomatch q)
theorem key_rl (a : Str) (b : Int) : decide ((Sum.inr a : Key) = Sum.inl b) = false := decide_eq_false (fun q => nomatch q)

noncomputable def mixKind (prog : Program) (w : World) : PySem.KeyKind prog w Key where
  is := keyIs
  hash := keyH w
  inj := fun v a b ha hb => by
    rcases keyIs_shape ha with ⟨i, t, rfl, rfl⟩ | ⟨x, t, rfl, rfl⟩
    · rcases keyIs_shape hb with ⟨j, u, rfl, e⟩ | ⟨y, u, rfl, e⟩
      · injection e with e1 _; rw [e1]
      · exact nomatch e
    · rcases keyIs_shape hb with ⟨j, u, rfl, e⟩ | ⟨y, u, rfl, e⟩
      · exact nomatch e
      · injection e with e1 _; rw [e1]
  byValue := fun k v h => by
    rcases keyIs_shape h with ⟨i, t, rfl, rfl⟩ | ⟨x, t, rfl, rfl⟩ <;> rfl
  pyHash := fun hv h => by
    rcases keyIs_shape hv with ⟨i, t, rfl, rfl⟩ | ⟨x, t, rfl, rfl⟩
    · exact wpAny_pyHash_int h
    · exact wpAny_pyHash_str h
  eqBool := fun hu hv h => by
    rcases keyIs_shape hu with ⟨i, t, rfl, rfl⟩ | ⟨x, t, rfl, rfl⟩
    · rcases keyIs_shape hv with ⟨j, u, rfl, rfl⟩ | ⟨y, u, rfl, rfl⟩
      · rw [key_ll] at h; exact wpAny_eqBool_int h
      · rw [key_lr] at h; exact SeqAt.EqAt.int_str i t y u _ _ _ _ h
    · rcases keyIs_shape hv with ⟨j, u, rfl, rfl⟩ | ⟨y, u, rfl, rfl⟩
      · rw [key_rl] at h; exact SeqAt.EqAt.str_int x t j u _ _ _ _ h
      · rw [key_rr] at h; exact wpAny_eqBool_str h
  «strs» := fun k x t v h => by
    rcases keyIs_shape h with ⟨i, u, rfl, e⟩ | ⟨y, u, rfl, e⟩
    · exact nomatch e
    · injection e with e1 _
      subst e1
      cases v <;> rfl

end L2

namespace L2
open PySem PySem.Spec PyProof.Rows

/-- a value, without the heap -/
inductive V where
  | non | bl (b : Bool) | int (i : Int) | str (x : Str) | byt (b : Array UInt8) | flt (b : UInt64) | ref (a : Addr) | ty (n : String)
  deriving DecidableEq

noncomputable def RelV : V → Value → Prop
  | .non, u => u = Value.none
  | .bl b, u => u = Value.bool b
  | .int i, u => ∃ t, u = Value.int i t
  | .str x, u => ∃ t, u = Value.str x t
  | .byt b, u => ∃ t, u = Value.bytes b t
  | .flt b, u => ∃ t, u = Value.float b t
  | .ref a, u => u = Value.ref a
  | .ty n, u => u = Value.type n

noncomputable abbrev Vals : List V → List Value → Prop := Paired RelV
theorem Vals.length {xs : List V} {us : List Value} (r : Vals xs us) : xs.length = us.length := Paired.length r
theorem Vals.get : ∀ {xs : List V} {us : List Value} {i : Nat} {x : V}, Vals xs us → xs[i]? = some x → ∃ u, us[i]? = some u ∧ RelV x u
  | _, _, _, _, .nil, e => by simp at e
  | _, _, 0, _, .cons r _, e => by simp at e; subst e; exact ⟨_, rfl, r⟩
  | _, _, i + 1, x, .cons _ t, e => by
    obtain ⟨u, h1, h2⟩ := Vals.get (i := i) (x := x) t (by simpa using e)
    exact ⟨u, by simpa using h1, h2⟩
theorem Vals.set {x : V} {u : Value} (r : RelV x u) : ∀ {xs : List V} {us : List Value} (i : Nat), Vals xs us → Vals (xs.set i x) (us.set i u)
  | _, _, _, .nil => .nil
  | _, _, 0, .cons _ t => .cons r t
  | _, _, i + 1, .cons q t => .cons q (Vals.set r i t)
theorem Vals.append : ∀ {xs ys : List V} {us ws : List Value}, Vals xs us → Vals ys ws → Vals (xs ++ ys) (us ++ ws)
  | _, _, _, _, .nil, s => s
  | _, _, _, _, .cons r t, s => .cons r (Vals.append t s)
theorem Vals.take : ∀ {xs : List V} {us : List Value} (n : Nat), Vals xs us → Vals (xs.take n) (us.take n)
  | _, _, 0, _ => .nil
  | _, _, _ + 1, .nil => .nil
  | _, _, n + 1, .cons r t => .cons r (Vals.take n t)
theorem Vals.drop : ∀ {xs : List V} {us : List Value} (n : Nat), Vals xs us → Vals (xs.drop n) (us.drop n)
  | _, _, 0, r => r
  | _, _, _ + 1, .nil => .nil
  | _, _, n + 1, .cons _ t => Vals.drop n t
theorem Vals.none_of : ∀ {xs : List V} {us : List Value} {i : Nat}, Vals xs us → xs[i]? = none → us[i]? = none := fun {xs us i} r e => by
  have h1 := r.length
  have h2 : xs.length ≤ i := List.getElem?_eq_none_iff.mp e
  exact List.getElem?_eq_none_iff.mpr (by omega)

noncomputable def RelO : Option V → Option Value → Prop
  | some v, some u => RelV v u
  | none, none => True
  | _, _ => False
noncomputable def KV {κ : Type} : List (κ × V) → List (κ × Value) → Prop := Paired fun (p : κ × V) (q : κ × Value) => p.1 = q.1 ∧ RelV p.2 q.2

/-- a key of a dict (00_mix): an int or a text -/
noncomputable def kV : Key → V
  | .inl i => .int i
  | .inr x => .str x

/-- what stands at a tracked address -/
inductive HO where
  /-- a list -/
  | lst (xs : List V)
  /-- a tuple (never changes) -/
  | tup (xs : List V)
  /-- a dict whose keys are ints and texts; one whose keys are tuples of ints and texts (the empty one is both) -/
  | dK (kvs : List (Key × V)) | dT (kvs : List (List Key × V))
  /-- a set of ints: its members, its size -/
  | set (S : Int → Bool) (n : Nat)
  /-- an instance of the class at C, its dict at dx, its attributes -/
  | ins (C dx : Addr) (fs : List (Str × V))
  /-- the dict of the instance at x -/
  | own (x : Addr)
  /-- the dict of an exception -/
  | xd (fs : List (Str × V))
  /-- a bound method, f of x -/
  | met (f x : Addr)
  /-- a range object lo, lo + 1, .. below hi -/
  | rng (lo hi : Int)
  /-- a thing that is known to the object (the script; a dict while a loop walks it): read, never written while it is so -/
  | frz (o : Obj) (u : HO)
  /-- a code object's table -/
  | tbl (ps : Array Value)
  /-- any other thing, by what is true of its one object (a def of one's own: SetO a S n := HO.ext fun h => ..) -/
  | ext (φ : Heap → Prop)

noncomputable abbrev Hp := Addr → Option HO
noncomputable def upd (H : Hp) (a : Addr) (o : HO) : Hp := fun b => if b = a then some o else H b
theorem upd_same {H : Hp} {a : Addr} {o : HO} : upd H a o a = some o := by unfold upd; rw [if_pos rfl]
theorem upd_ne {H : Hp} {a b : Addr} {o : HO} (h : b ≠ a) : upd H a o b = H b := by unfold upd; rw [if_neg h]
/-- two objects of different content stand apart -/
theorem ne_of {H : Hp} {a b : Addr} {o u : HO} (h : H a = some o) (h' : H b = some u) (d : o ≠ u) : a ≠ b := by
  intro e; subst e; rw [h] at h'; exact d (Option.some.inj h')
theorem ne_of_none {H : Hp} {a b : Addr} {o : HO} (h : H a = some o) (h' : H b = none) : a ≠ b := by
  intro e; subst e; rw [h] at h'; cases h'

noncomputable def IsTupN (h : Heap) (a : Addr) (items : Array Value) : Prop := IsTup h a items ∧ ∃ o, h.get? a = some o ∧ o.dict = none
theorem IsTupN.new (h : Heap) (items : Array Value) : IsTupN (h.push { cls := .type "tuple", data := .seq items }) h.objs.size items := ⟨IsTup.new h items, _, Heap.get?_push_size _ rfl, rfl⟩
section
variable (P : Program) (w : World)
noncomputable def ObjOk (H : Hp) (h : Heap) (a : Addr) : HO → Prop
  | .lst xs => xs.length ≤ sizeLine ∧ ∃ (its : List Value) (n : Nat), Vals xs its ∧ h.get? a = some { cls := .type "list", data := .seq its.toArray n }
  | .tup xs => xs.length ≤ sizeLine ∧ ∃ its : List Value, Vals xs its ∧ IsTupN h a its.toArray
  | .dK kvs => kvs.length ≤ sizeLine ∧ (a == sysModules) = false ∧ ∃ vs, KV kvs vs ∧ h.DictOf (mixKind P w) a vs
  | .dT kvs => kvs.length ≤ sizeLine ∧ (a == sysModules) = false ∧ ∃ xs : List (List Key × Addr × Value),
      Paired (fun (p : List Key × V) (q : List Key × Addr × Value) => p.1 = q.1 ∧ H q.2.1 = some (.tup (p.1.map kV)) ∧ RelV p.2 q.2.2) kvs xs ∧
      ∃ o es ep, h.get? a = some o ∧ o.ExactDict ∧ o.data = .dict es ep ∧ es.toList = xs.map (entryOfKey (tupleKind (mixKind P w))) ∧ (xs.map (·.1)).Nodup
  | .set S n => h.SetOf (intKind P w) a S n
  | .ins C dx fs => H dx = some (.own a) ∧ fs.length ≤ 1000 ∧ dx ≠ a ∧ h.get? a = some (PySem.W.instObj C dx) ∧
      ∃ mA, h.Ns1 dx mA ∧ (∀ f, RelO (fs.lookup f) (mA f)) ∧ PySem.Within mA (fs.map (·.1))
  | .own _ => ∃ o, h.get? a = some o
  | .xd fs => ∃ mA, h.Ns1 a mA ∧ ∀ f, RelO (fs.lookup f) (mA f)
  | .rng lo hi => ∃ t u v, h.get? a = some { cls := .type "range", data := .fields #[.int lo t, .int hi u, .int 1 v] }
  | .frz o u => h.get? a = some o ∧ ObjOk H h a u
  | .tbl ps => h.get? a = some { cls := .none, data := .fields ps }
  | .met f x => h.get? a = some (PySem.W.methodObj (.ref f) (.ref x))
  | .ext φ => φ h ∧ (∃ o, h.get? a = some o) ∧ ∀ h1 h2 : Heap, φ h1 → (∀ o, h1.get? a = some o → h2.get? a = some o) → φ h2
/-- the abstract heap is held -/
noncomputable def HOk (H : Hp) (h : Heap) : Prop := ∀ a o, H a = some o → ObjOk P w H h a o
end

section
variable {P : Program} {w : World} {H H' : Hp} {h h' : Heap} {a : Addr} {o : HO}
theorem ObjOk.lt (x : ObjOk P w H h a o) : a < h.objs.size := by
  cases o with
  | lst xs => obtain ⟨_, _, _, _, e⟩ := x; exact Heap.lt_size e
  | tup xs => obtain ⟨_, _, _, p⟩ := x; exact p.1.lt
  | dK kvs => obtain ⟨_, _, _, _, o, _, _, e, _⟩ := x; exact Heap.lt_size e
  | dT kvs => obtain ⟨_, _, _, _, o, _, _, e, _⟩ := x; exact Heap.lt_size e
  | set S n => obtain ⟨o, _, _, _, e, _⟩ := x; exact Heap.lt_size e
  | ins C dx fs => obtain ⟨_, _, _, e, _⟩ := x; exact Heap.lt_size e
  | own y => obtain ⟨_, e⟩ := x; exact Heap.lt_size e
  | xd fs => obtain ⟨_, ⟨_, _, _, e, _⟩, _⟩ := x; exact Heap.lt_size e
  | rng lo hi => obtain ⟨_, _, _, e⟩ := x; exact Heap.lt_size e
  | frz ob u => obtain ⟨e, _⟩ := x; exact Heap.lt_size e
  | tbl ps => exact Heap.lt_size (show h.get? a = some _ from x)
  | met f y => exact Heap.lt_size (show h.get? a = some _ from x)
  | ext φ => obtain ⟨_, ⟨_, e⟩, _⟩ := x; exact Heap.lt_size e
theorem Paired.mapP {α β : Type} {F G : α → β → Prop} : ∀ {l₁ : List α} {l₂ : List β}, Paired F l₁ l₂ → (∀ a b, F a b → G a b) → Paired G l₁ l₂
  | _, _, .nil, _ => .nil
  | _, _, .cons r t, f => .cons (f _ _ r) (Paired.mapP t f)
/-- what an object's description leans on: its own object, its own dict, the tuples -/
theorem ObjOk.stay (x : ObjOk P w H h a o) (k : ∀ b u, (b = a ∨ H b = some (.own a)) → h.get? b = some u → h'.get? b = some u)
    (ho : ∀ b, H b = some (.own a) → H' b = some (.own a)) (ht : ∀ b xs, H b = some (.tup xs) → H' b = some (.tup xs)) : ObjOk P w H' h' a o := by
  induction o with
  | lst xs => obtain ⟨z, its, n, r, e⟩ := x; exact ⟨z, its, n, r, k _ _ (.inl rfl) e⟩
  | tup xs => obtain ⟨z, its, r, ⟨ob, e, c⟩, ob2, e2, c2⟩ := x; exact ⟨z, its, r, ⟨ob, k _ _ (.inl rfl) e, c⟩, ob2, k _ _ (.inl rfl) e2, c2⟩
  | dK kvs => obtain ⟨z, y, vs, r, ob, es, ep, e, c⟩ := x; exact ⟨z, y, vs, r, ob, es, ep, k _ _ (.inl rfl) e, c⟩
  | dT kvs =>
    obtain ⟨z, y, xs, r, ob, es, ep, e, c⟩ := x
    exact ⟨z, y, xs, Paired.mapP r fun p q z => ⟨z.1, ht _ _ z.2.1, z.2.2⟩, ob, es, ep, k _ _ (.inl rfl) e, c⟩
  | set S n => obtain ⟨ob, es, ep, t, e, c⟩ := x; exact ⟨ob, es, ep, t, k _ _ (.inl rfl) e, c⟩
  | ins C dx fs =>
    obtain ⟨d, z, ne, e, mA, ⟨od, es, ep, e2, c⟩, r⟩ := x
    exact ⟨ho _ d, z, ne, k _ _ (.inl rfl) e, mA, ⟨od, es, ep, k _ _ (.inr d) e2, c⟩, r⟩
  | own y => obtain ⟨ob, e⟩ := x; exact ⟨ob, k _ _ (.inl rfl) e⟩
  | xd fs => obtain ⟨mA, ⟨od, es, ep, e, c⟩, r⟩ := x; exact ⟨mA, ⟨od, es, ep, k _ _ (.inl rfl) e, c⟩, r⟩
  | rng lo hi => obtain ⟨t, u, v, e⟩ := x; exact ⟨t, u, v, k _ _ (.inl rfl) e⟩
  | frz ob u ih => obtain ⟨e, q⟩ := x; exact ⟨k _ _ (.inl rfl) e, ih q⟩
  | tbl ps =>
    have e : h.get? a = some { cls := .none, data := .fields ps } := x
    show h'.get? a = some { cls := .none, data := .fields ps }
    exact k a _ (.inl rfl) e
  | met f y =>
    have e : h.get? a = some (PySem.W.methodObj (.ref f) (.ref y)) := x
    show h'.get? a = some (PySem.W.methodObj (.ref f) (.ref y))
    exact k a _ (.inl rfl) e
  | ext φ => obtain ⟨p, ⟨o, e⟩, st⟩ := x; exact ⟨st _ _ p fun o q => k _ _ (.inl rfl) q, ⟨o, k _ _ (.inl rfl) e⟩, st⟩
theorem HOk.lt (x : HOk P w H h) (e : H a = some o) : a < h.objs.size := (x a o e).lt
theorem HOk.fresh (x : HOk P w H h) (e : h.objs.size ≤ a) : H a = none := by
  cases q : H a with
  | none => rfl
  | some u => exact absurd (Nat.lt_of_lt_of_le (x.lt q) e) (Nat.lt_irrefl _)
/-- every object of the heap is kept -/
theorem HOk.kept (x : HOk P w H h) (k : ∀ b u, h.get? b = some u → h'.get? b = some u) : HOk P w H h' := fun a o e =>
  (x a o e).stay (fun b u _ q => k b u q) (fun _ q => q) fun _ _ q => q
/-- a new object is laid and tracked -/
theorem HOk.laid (x : HOk P w H h) (k : ∀ b u, h.get? b = some u → h'.get? b = some u) (hp : h.objs.size ≤ a) (new : ObjOk P w (upd H a o) h' a o) : HOk P w (upd H a o) h' := fun b u e => by
  have hn := x.fresh hp
  by_cases hb : b = a
  · subst hb; rw [upd_same] at e; cases e; exact new
  · rw [upd_ne hb] at e
    exact (x b u e).stay (fun c v _ q => k c v q) (fun c q => by rw [upd_ne (ne_of_none q hn)]; exact q) fun c xs q => by rw [upd_ne (ne_of_none q hn)]; exact q
end

/-- what may be read as u: it is u, or a known u -/
noncomputable def Rd (H : Hp) (a : Addr) (u : HO) : Prop := H a = some u ∨ ∃ o, H a = some (.frz o u)
theorem Rd.of {H : Hp} {a : Addr} {u : HO} (h : H a = some u) : Rd H a u := .inl h
theorem Rd.ok {P : Program} {w : World} {H : Hp} {h : Heap} {a : Addr} {u : HO} (r : Rd H a u) (x : HOk P w H h) : ObjOk P w H h a u := by
  rcases r with r | ⟨o, r⟩
  · exact x a u r
  · obtain ⟨_, q⟩ := x a _ r
    exact q
/-- what may be written -/
noncomputable def Mut : Option HO → Prop
  | some (.lst _) => True
  | some (.dK _) => True
  | some (.dT _) => True
  | some (.set _ _) => True
  | some (.ins _ _ _) => True
  | some (.ext _) => True
  | _ => False
section
variable {P : Program} {w : World} {H : Hp} {h h' : Heap} {x e : Addr} {o' : HO}
/-- the object at e is changed: x itself, or the dict of the instance x -/
theorem HOk.write (ok : HOk P w H h) (mu : Mut (H x)) (he : e = x ∨ H e = some (.own x)) (k : ∀ b u, b ≠ e → h.get? b = some u → h'.get? b = some u) (heo : ∃ u, h'.get? e = some u)
    (new : ObjOk P w (upd H x o') h' x o') : HOk P w (upd H x o') h' := fun b u q => by
  have nown : ∀ c y, H c = some (.own y) → c ≠ x := fun c y r z => by subst z; rw [r] at mu; exact mu
  have ntup : ∀ c xs, H c = some (.tup xs) → c ≠ x := fun c xs r z => by subst z; rw [r] at mu; exact mu
  by_cases hb : b = x
  · subst hb; rw [upd_same] at q; cases q; exact new
  · rw [upd_ne hb] at q
    by_cases hbe : b = e
    · have q' : H b = some (.own x) := by
        rcases he with z | z
        · exact absurd (hbe.trans z) hb
        · rw [hbe]; exact z
      rw [q] at q'; cases q'
      obtain ⟨v, hv⟩ := heo
      exact ⟨v, by rw [hbe]; exact hv⟩
    · refine (ok b u q).stay (fun c v hc r => k c v ?_ r) (fun c r => by rw [upd_ne (nown c b r)]; exact r) fun c xs r => by rw [upd_ne (ntup c xs r)]; exact r
      rcases hc with rfl | hc
      · exact hbe
      · rintro rfl
        rcases he with z | z
        · exact nown c b hc z
        · rw [hc] at z; cases z; exact hb rfl
end

/-! ### kept unless tracked; of the frames at fs (the callers') the slots may change (an exception that passes writes there); of the records at ex (iterators) nothing is said -/
structure Un (fs ex : List Addr) (H H' : Hp) (h h' : Heap) : Prop where
  keep : ∀ b o, h.get? b = some o → H b = none → b ∉ fs → b ∉ ex → h'.get? b = some o
  slot : ∀ b o, h.get? b = some o → H b = none → b ∈ fs → b ∉ ex → ∃ sl, h'.get? b = some { o with slots := sl }
  free : ∀ b o, h.get? b = some o → H b = none → b ∉ ex → H' b = none
  there : ∀ b o, h.get? b = some o → b ∉ ex → ∃ o', h'.get? b = some o'
  tups : ∀ b xs, H b = some (.tup xs) → H' b = some (.tup xs)
  frzs : ∀ b o u, H b = some (.frz o u) → H' b = some (.frz o u)
  tbls : ∀ b ps, H b = some (.tbl ps) → ∃ more, H' b = some (.tbl (ps ++ more))
section
variable {fs fs' ex ex' : List Addr} {H H1 H2 : Hp} {h h1 h2 h' : Heap} {a x e : Addr} {o : HO}
theorem Un.any (u : Un fs ex H H1 h h1) {b : Addr} {ob : Obj} (q : h.get? b = some ob) (n : H b = none) (hx : b ∉ ex) : ∃ sl, h1.get? b = some { ob with slots := sl } := by
  by_cases hb : b ∈ fs
  · exact u.slot b ob q n hb hx
  · exact ⟨ob.slots, u.keep b ob q n hb hx⟩
theorem Un.trans (a : Un fs ex H H1 h h1) (b : Un fs ex H1 H2 h1 h2) : Un fs ex H H2 h h2 where
  keep := fun c ob q n hc hx => b.keep c ob (a.keep c ob q n hc hx) (a.free c ob q n hx) hc hx
  slot := fun c ob q n hc hx => by
    obtain ⟨sl, e1⟩ := a.slot c ob q n hc hx
    obtain ⟨sl', e2⟩ := b.slot c _ e1 (a.free c ob q n hx) hc hx
    exact ⟨sl', e2⟩
  free := fun c ob q n hx => by
    obtain ⟨o', e1⟩ := a.there c ob q hx
    exact b.free c o' e1 (a.free c ob q n hx) hx
  there := fun c ob q hx => by
    obtain ⟨o', e1⟩ := a.there c ob q hx
    exact b.there c o' e1 hx
  tups := fun c xs q => b.tups c xs (a.tups c xs q)
  frzs := fun c ob xs q => b.frzs c ob xs (a.frzs c ob xs q)
  tbls := fun c ps q => by
    obtain ⟨m1, e1⟩ := a.tbls c ps q
    obtain ⟨m2, e2⟩ := b.tbls c _ e1
    exact ⟨m1 ++ m2, by rw [e2, Array.append_assoc]⟩
theorem Un.kept (k : ∀ b u, h.get? b = some u → h'.get? b = some u) : Un fs ex H H h h' :=
  ⟨fun b ob q _ _ _ => k b ob q, fun b ob q _ _ _ => ⟨ob.slots, k b ob q⟩, fun _ _ _ n _ => n, fun b ob q _ => ⟨ob, k b ob q⟩, fun _ _ q => q, fun _ _ _ q => q, fun _ ps q => ⟨#[], by rw [q]; simp⟩⟩
theorem Un.refl : Un fs ex H H h h := Un.kept fun _ _ q => q
theorem Un.laid (k : ∀ b u, h.get? b = some u → h'.get? b = some u) (hp : h.objs.size ≤ a) (hn : H a = none) : Un fs ex H (upd H a o) h h' where
  keep := fun b u q _ _ _ => k b u q
  slot := fun b u q _ _ _ => ⟨u.slots, k b u q⟩
  free := fun b u q n _ => by rw [upd_ne (Nat.ne_of_lt (Nat.lt_of_lt_of_le (Heap.lt_size q) hp))]; exact n
  there := fun b u q _ => ⟨u, k b u q⟩
  tups := fun b xs q => by rw [upd_ne (ne_of_none q hn)]; exact q
  frzs := fun b u xs q => by rw [upd_ne (ne_of_none q hn)]; exact q
  tbls := fun b ps q => ⟨#[], by rw [upd_ne (ne_of_none q hn), q]; simp⟩
theorem Un.write (mu : Mut (H x)) (he : e = x ∨ H e = some (.own x)) (k : ∀ b u, b ≠ e → h.get? b = some u → h'.get? b = some u) (heo : ∃ u, h'.get? e = some u) : Un fs ex H (upd H x o) h h' := by
  have hx : ∀ b, H b = none → b ≠ x := fun b n z => by subst z; rw [n] at mu; exact mu
  have hb : ∀ b, H b = none → b ≠ e := fun b n z => by
    subst z
    rcases he with r | r
    · exact hx b n r
    · rw [n] at r; cases r
  have hm : ∀ b u, H b = some u → ¬ Mut (some u) → b ≠ x := fun b u q nm z => by subst z; rw [q] at mu; exact nm mu
  refine ⟨fun b u q n _ _ => k b u (hb b n) q, fun b u q n _ _ => ⟨u.slots, k b u (hb b n) q⟩, fun b u q n _ => by rw [upd_ne (hx b n)]; exact n, fun b u q _ => ?_,
    fun b xs q => by rw [upd_ne (hm b _ q fun z => z)]; exact q, fun b u xs q => by rw [upd_ne (hm b _ q fun z => z)]; exact q, fun b ps q => ⟨#[], by rw [upd_ne (hm b _ q fun z => z), q]; simp⟩⟩
  by_cases hbe : b = e
  · subst hbe; exact heo
  · exact ⟨u, k b u hbe q⟩
theorem Un.mono (u : Un fs ex H H1 h h1) (hs : ∀ b ∈ fs, b ∈ fs') (hx : ∀ b ∈ ex, b ∈ ex') : Un fs' ex' H H1 h h1 :=
  ⟨fun b ob q n hb he => u.keep b ob q n (fun z => hb (hs b z)) fun z => he (hx b z), fun _ _ q n _ he => u.any q n fun z => he (hx _ z), fun b ob q n he => u.free b ob q n fun z => he (hx b z), fun b ob q he => u.there b ob q fun z => he (hx b z), u.tups, u.frzs, u.tbls⟩
end

/-! ### the heap without what is tracked -/
noncomputable def trk (h : Heap) (H : Hp) : List Addr := (List.range h.objs.size).filter fun a => (H a).isSome
noncomputable def hidT (h : Heap) (H : Hp) : Heap := PySem.W.hideAll h (trk h H)
theorem hidT_size (h : Heap) (H : Hp) : (hidT h H).objs.size = h.objs.size := PySem.W.hideAll_size _ _
theorem hidT_get {h : Heap} {H : Hp} {b : Addr} {o : Obj} (e : h.get? b = some o) (n : H b = none) : (hidT h H).get? b = some o :=
  PySem.W.hideAll_get _ e fun hm => by
    have q : (H b).isSome = true := (List.mem_filter.mp hm).2
    rw [n] at q; simp at q
theorem of_hidT {h : Heap} {H : Hp} {b : Addr} {o : Obj} (e : (hidT h H).get? b = some o) : h.get? b = some o ∧ H b = none := by
  have e' : h.get? b = some o := PySem.W.of_hideAll (trk h H) e
  refine ⟨e', ?_⟩
  cases q : H b with
  | none => rfl
  | some x =>
    have hm : b ∈ trk h H := List.mem_filter.mpr ⟨List.mem_range.mpr (Heap.lt_size e'), by simp [q]⟩
    have z : (hidT h H).get? b = none := PySem.W.hideAll_none (trk h H) hm
    rw [z] at e; cases e

/-! ### OpenK's ledger, filled with every new object but one -/
noncomputable def allNews (g h : Heap) (L : Addr) : List (Addr × Obj) := (List.range h.objs.size).filterMap fun a => if a = L ∨ (g.get? a).isSome = true then none else (h.get? a).map fun o => (a, o)
theorem mem_allNews {g h : Heap} {L a : Addr} {o : Obj} (h1 : a ≠ L) (h2 : g.get? a = none) (h3 : h.get? a = some o) : (a, o) ∈ allNews g h L :=
  List.mem_filterMap.mpr ⟨a, List.mem_range.mpr (Heap.lt_size h3), by simp [h1, h2, h3]⟩
theorem of_mem_allNews {g h : Heap} {L : Addr} {p : Addr × Obj} (hp : p ∈ allNews g h L) : p.1 ≠ L ∧ g.get? p.1 = none ∧ h.get? p.1 = some p.2 := by
  obtain ⟨b, _, e⟩ := List.mem_filterMap.mp hp
  split at e
  · cases e
  · rename_i hn
    cases q : h.get? b with
    | none => rw [q] at e; simp at e
    | some u =>
      rw [q] at e
      simp only [Option.map_some, Option.some.injEq] at e
      subst e
      refine ⟨fun z => hn (.inl z), ?_, q⟩
      show g.get? b = none
      cases r : g.get? b with
      | none => rfl
      | some v => exact (hn (.inr (by simp [r]))).elim
noncomputable def rest (g h : Heap) (L d : Addr) : List (Addr × Obj) := (allNews g h L).filter fun p => decide (p.1 ≠ d)
theorem news_all {g h : Heap} {L : Addr} : News g L h (allNews g h L) := fun p hp => let ⟨a, b, c⟩ := of_mem_allNews hp; ⟨c, a, b⟩
end L2

namespace L2
open PySem PySem.Spec PyProof.Rows

/-- the module's facts, over the base: the heap at the law's entry without what is tracked there -/
structure Mod (K : PySem.W.Frag) (mg : Str → Option Value) (base : Heap) : Prop where
  kin : K.In base
  glob : base.Ns mainGlobals mg
  blt : ∃ mb, base.Ns builtinsNs mb ∧ ∀ x : Str, x ≠ "__name__" → mb x = bootBuiltins x
  nolimit : base.NoLimit

/-- the context: a def's body (or a comprehension's block) running. base: fixed through the whole law; s₀, H₀: the entry; outer: the frames whose slots others may change (a def's callers); stack: all frames that run;
   ex: iterators that were made ahead of the entry and are walked here (a comprehension's); fn: the names whose cells were made at the entry (a def: all; a comprehension's block: its own); calm: not within an except suite; pn: pins that every state bears; xe: what is wanted of an exception that leaves the code -/
structure Cx where
  prog : Program
  w : World
  K : PySem.W.Frag
  mg : Str → Option Value
  base : Heap
  A : Around
  N : List Str
  s₀ : Shared
  H₀ : Hp
  env : Env
  outer : List Env
  stack : List Env
  ex : List Addr
  fn : Str → Bool
  calm : Bool
  pn : List (Addr × Obj)
  xe : Value → Shared → Prop
/-- the callers' frames -/
noncomputable def frs (l : List Env) : List Addr := l.filterMap (·.frame)
noncomputable abbrev Cx.fs (X : Cx) : List Addr := frs X.outer

noncomputable def Vis (sc : Scope) (x : Str) : Prop := sc.names.lookup x = some .local ∨ sc.names.lookup x = some .cell ∨ sc.names.lookup x = some .free
noncomputable def Loc (sc : Scope) (x : Str) : Prop := sc.names.lookup x = some .local ∨ sc.names.lookup x = some .cell
noncomputable def Look (env : Env) (h : Heap) (m : Str → Option Value) (x : Str) (u : Value) : Prop :=
  (env.kindOf x = some .local ∧ m x = some u) ∨ ((env.kindOf x = some .cell ∨ env.kindOf x = some .free) ∧ ∃ c, env.cells.lookup x = some c ∧ h.IsCell c (some u))

structure Cx.Ok (X : Cx) : Prop where
  mod : Mod X.K X.mg X.base
  kind : X.env.scope.kind = .function
  glob : X.env.globals = mainGlobals
  blt : X.env.builtins = builtinsNs
  above : X.s₀.heap.objs.size ≤ X.env.locals
  inj : ∀ x y c, X.env.cells.lookup x = some c → X.env.cells.lookup y = some c → x = y
  has : ∀ x, (X.env.kindOf x = some .cell ∨ X.env.kindOf x = some .free) → ∃ c, X.env.cells.lookup x = some c
  cab : ∀ x c, X.fn x = true → X.env.cells.lookup x = some c → X.s₀.heap.objs.size ≤ c
  hd : X.calm = true → X.A.handled = none
  frames : X.A.frames = some X.stack
  stk : X.stack = X.outer ∨ (X.stack = X.env :: X.outer ∧ X.env.frame = some X.env.locals)
  exf : ∀ b ∈ X.ex, b ≠ X.env.locals ∧ ∀ x c, X.env.cells.lookup x = some c → c ≠ b
  bs : ∀ b o, X.base.get? b = some o → X.s₀.heap.get? b = some o ∧ X.H₀ b = none
  bsz : X.base.objs.size ≤ X.s₀.heap.objs.size
  noex : ∀ b o, X.base.get? b = some o → b ∉ X.ex
  exfs : ∀ b ∈ X.ex, b ∉ X.fs
  funs : X.s₀.heap.FunFrames X.base X.outer
  frf : ∀ b ∈ X.fs, X.H₀ b = none

structure Inv (X : Cx) (pins : List (Addr × Obj)) (σ : List (Option V)) (H : Hp) (s : Shared) : Prop where
  ok : X.Ok
  os : s.os = X.s₀.os
  bare : AllBare s.gens
  base : Un X.fs X.ex X.H₀ H X.s₀.heap s.heap
  loc : ∃ m, s.heap.Ns X.env.locals m ∧ ∀ (i : Nat) (x : Str) (v : V), X.N[i]? = some x → σ[i]? = some (some v) → Vis X.env.scope x → ∃ u, RelV v u ∧ Look X.env s.heap m x u
  cell : ∀ x c, X.env.cells.lookup x = some c → ∃ v, s.heap.IsCell c v
  free : H X.env.locals = none
  freeC : ∀ x c, X.env.cells.lookup x = some c → H c = none
  pin : ∀ p ∈ X.pn ++ pins, s.heap.get? p.1 = some p.2 ∧ H p.1 = none ∧ p.1 ≠ X.env.locals ∧ p.1 ∉ X.fs ∧ ∀ v, p.2.data ≠ .cell v
  hok : HOk X.prog X.w H s.heap
  len : σ.length = X.N.length

section
variable {X : Cx} {pins : List (Addr × Obj)} {σ : List (Option V)} {H H' : Hp} {s : Shared} {h' : Heap}

theorem Cx.Ok.nofr (ok : X.Ok) {b : Addr} {o : Obj} (e : X.base.get? b = some o) : b ∉ X.fs := fun hb => by
  have := (ok.funs.mem hb).1
  rw [e] at this; cases this
theorem Inv.bs (I : Inv X pins σ H s) : ∀ b o, X.base.get? b = some o → s.heap.get? b = some o ∧ H b = none := fun b o e =>
  ⟨I.base.keep b o (I.ok.bs b o e).1 (I.ok.bs b o e).2 (I.ok.nofr e) (I.ok.noex b o e), I.base.free b o (I.ok.bs b o e).1 (I.ok.bs b o e).2 (I.ok.noex b o e)⟩
theorem Inv.bk (I : Inv X pins σ H s) : ∀ b o, X.base.get? b = some o → s.heap.get? b = some o := fun b o e => (I.bs b o e).1
theorem Inv.mod (I : Inv X pins σ H s) : Mod X.K X.mg X.base := I.ok.mod
theorem Inv.kIn (I : Inv X pins σ H s) : X.K.In s.heap := I.ok.mod.kin.keeps I.bk
theorem Inv.nolimit (I : Inv X pins σ H s) : s.heap.NoLimit := I.ok.mod.nolimit.keeps I.bk
/-- the frame over the base: for OpenK's rules (K.In X.base is I.mod.kin) -/
theorem Inv.fr (I : Inv X pins σ H s) : ∃ m, Fr X.base X.env.locals s.heap m :=
  let ⟨m, hn, _⟩ := I.loc
  ⟨m, hn, I.bk, Nat.le_trans I.ok.bsz I.ok.above⟩
theorem Inv.lt (I : Inv X pins σ H s) : X.env.locals < s.heap.objs.size := let ⟨_, hn, _⟩ := I.loc; hn.lt
theorem Inv.sz (I : Inv X pins σ H s) : X.s₀.heap.objs.size ≤ s.heap.objs.size := Nat.le_trans I.ok.above (Nat.le_of_lt I.lt)
theorem Inv.nofs (I : Inv X pins σ H s) {a : Addr} (h : s.heap.objs.size ≤ a) : a ∉ X.fs := fun hb => by
  obtain ⟨_, o, ho, _⟩ := I.ok.funs.mem hb
  exact absurd (Nat.lt_of_lt_of_le (Heap.lt_size ho) (Nat.le_trans I.sz h)) (Nat.lt_irrefl _)
theorem Inv.cne (I : Inv X pins σ H s) : ∀ x c, X.env.cells.lookup x = some c → c ≠ X.env.locals := fun x c e z => by
  obtain ⟨v, o, ho, hd⟩ := I.cell x c e
  obtain ⟨m, ⟨o', es, ep, ho', hd', _⟩, _⟩ := I.loc
  rw [z, ho'] at ho; cases ho; rw [hd'] at hd; cases hd
theorem Inv.funs (I : Inv X pins σ H s) : s.heap.FunFrames X.base X.outer := by
  have all : ∀ (l : List Env), (∀ b ∈ frs l, b ∈ X.fs) → X.s₀.heap.FunFrames X.base l → s.heap.FunFrames X.base l := by
    intro l
    induction l with
    | nil => intro _ _; trivial
    | cons env r ih =>
      intro hs hl
      obtain ⟨hk, ⟨L, o, hf, hn, ho, hd⟩, hr⟩ := hl
      have hL : L ∈ X.fs := hs L (by unfold frs; rw [List.filterMap_cons, hf]; exact List.mem_cons_self)
      obtain ⟨sl, e⟩ := I.base.slot L o ho (I.ok.frf L hL) hL fun z => I.ok.exfs L z hL
      exact ⟨hk, ⟨L, _, hf, hn, e, hd⟩, ih (fun b hb => hs b (by unfold frs; rw [List.filterMap_cons, hf]; exact List.mem_cons_of_mem _ hb)) hr⟩
  exact all X.outer (fun _ hb => hb) I.ok.funs

/-- the frames that run, for a call -/
theorem Inv.stack (I : Inv X pins σ H s) : s.heap.FunFrames X.base X.stack := by
  rcases I.ok.stk with e | ⟨e, hf⟩
  · rw [e]; exact I.funs
  · rw [e]
    obtain ⟨m, hn, _⟩ := I.loc
    refine .cons (by rw [I.ok.kind]; decide) hf hn ?_ I.funs
    exact Heap.get?_none_of_le (Nat.le_trans I.ok.bsz I.ok.above)
theorem Inv.stkSub (I : Inv X pins σ H s) : ∀ b ∈ frs X.stack, b ∈ X.env.locals :: X.fs := fun b hb => by
  rcases I.ok.stk with e | ⟨e, hf⟩
  · rw [e] at hb; exact List.mem_cons_of_mem _ hb
  · rw [e] at hb
    unfold frs at hb
    rw [List.filterMap_cons, hf] at hb
    exact hb
theorem Inv.stkFree (I : Inv X pins σ H s) : ∀ b ∈ frs X.stack, H b = none := fun b hb => by
  rcases List.mem_cons.mp (I.stkSub b hb) with e | hb
  · rw [e]; exact I.free
  · obtain ⟨_, o, ho, _⟩ := I.ok.funs.mem hb
    exact I.base.free b o ho (I.ok.frf b hb) fun z => I.ok.exfs b z hb

/-- THE STEP: the untracked objects but the frame and the records at ch are kept (the callers' frames up to slots), the frame's map is kept, the new abstract heap is held -/
theorem Inv.step {g' : Array GenState} {t' : Nat} {d' : Drawn} {ch : List Addr} (I : Inv X pins σ H s)
    (hch : ∀ b ∈ ch, (b ∈ X.ex ∨ X.s₀.heap.objs.size ≤ b) ∧ b ≠ X.env.locals ∧ (∀ x c, X.env.cells.lookup x = some c → c ≠ b) ∧ ∀ p ∈ X.pn ++ pins, p.1 ≠ b)
    (keep : ∀ b o, b ≠ X.env.locals → b ∉ X.fs → b ∉ ch → s.heap.get? b = some o → H b = none → h'.get? b = some o)
    (slot : ∀ b o, b ≠ X.env.locals → b ∈ X.fs → b ∉ ch → s.heap.get? b = some o → H b = none → ∃ sl, h'.get? b = some { o with slots := sl }) (free : ∀ b o, b ∉ ch → s.heap.get? b = some o → H b = none → H' b = none)
    (there : ∀ b o, b ∉ ch → s.heap.get? b = some o → ∃ o', h'.get? b = some o')
    (tups : ∀ b xs, H b = some (.tup xs) → H' b = some (.tup xs)) (frzs : ∀ b o u, H b = some (.frz o u) → H' b = some (.frz o u)) (tbls : ∀ b ps, H b = some (.tbl ps) → ∃ more, H' b = some (.tbl (ps ++ more)))
    (ns : ∀ m, s.heap.Ns X.env.locals m → h'.Ns X.env.locals m) (hok : HOk X.prog X.w H' h') (hg : AllBare g') :
    Inv X pins σ H' { s with heap := h', gens := g', drawn := d', toks := t' } := by
  have neL : ∀ b o, X.s₀.heap.get? b = some o → b ≠ X.env.locals := fun b o e => Nat.ne_of_lt (Nat.lt_of_lt_of_le (Heap.lt_size e) I.ok.above)
  have neC : ∀ b o, X.s₀.heap.get? b = some o → b ∉ X.ex → b ∉ ch := fun b o e hx hb => by
    rcases (hch b hb).1 with z | z
    · exact hx z
    · exact absurd (Nat.lt_of_lt_of_le (Heap.lt_size e) z) (Nat.lt_irrefl _)
  have cellK : ∀ x c, X.env.cells.lookup x = some c → ∀ v, s.heap.IsCell c v → h'.IsCell c v := fun x c e v ⟨o, ho, hd⟩ => by
    have nch : c ∉ ch := fun z => (hch c z).2.2.1 x c e rfl
    by_cases hc : c ∈ X.fs
    · obtain ⟨sl, q⟩ := slot c o (I.cne x c e) hc nch ho (I.freeC x c e)
      exact ⟨_, q, hd⟩
    · exact ⟨o, keep c o (I.cne x c e) hc nch ho (I.freeC x c e), hd⟩
  refine ⟨I.ok, I.os, hg, ⟨fun b o e n hb hx => ?_, fun b o e n hb hx => ?_, fun b o e n hx => ?_, fun b o e hx => ?_, fun b xs e => tups b xs (I.base.tups b xs e), fun b o xs e => frzs b o xs (I.base.frzs b o xs e), fun b ps e => ?_⟩, ?_, fun x c e => ?_, ?_, fun x c e => ?_, fun p hp => ?_, hok, I.len⟩
  · exact keep b o (neL b o e) hb (neC b o e hx) (I.base.keep b o e n hb hx) (I.base.free b o e n hx)
  · obtain ⟨sl, e1⟩ := I.base.slot b o e n hb hx
    obtain ⟨sl', e2⟩ := slot b _ (neL b o e) hb (neC b o e hx) e1 (I.base.free b o e n hx)
    exact ⟨sl', e2⟩
  · obtain ⟨o', e1⟩ := I.base.there b o e hx
    exact free b o' (neC b o e hx) e1 (I.base.free b o e n hx)
  · obtain ⟨o', e1⟩ := I.base.there b o e hx
    exact there b o' (neC b o e hx) e1
  · obtain ⟨m1, e1⟩ := I.base.tbls b ps e
    obtain ⟨m2, e2⟩ := tbls b _ e1
    exact ⟨m1 ++ m2, by rw [e2, Array.append_assoc]⟩
  · obtain ⟨m, hn, hl⟩ := I.loc
    refine ⟨m, ns m hn, fun i x v e1 e2 e3 => ?_⟩
    obtain ⟨u, r, l⟩ := hl i x v e1 e2 e3
    refine ⟨u, r, ?_⟩
    rcases l with l | ⟨k, c, e, z⟩
    · exact .inl l
    · exact .inr ⟨k, c, e, cellK x c e _ z⟩
  · obtain ⟨v, z⟩ := I.cell x c e
    exact ⟨v, cellK x c e v z⟩
  · obtain ⟨m, ⟨o, _, _, ho, _⟩, _⟩ := I.loc
    exact free _ o (fun z => (hch _ z).2.1 rfl) ho I.free
  · obtain ⟨v, o, ho, hd⟩ := I.cell x c e
    exact free c o (fun z => (hch c z).2.2.1 x c e rfl) ho (I.freeC x c e)
  · obtain ⟨e, n, ne, nf, d⟩ := I.pin p hp
    have nch : p.1 ∉ ch := fun z => (hch p.1 z).2.2.2 p hp rfl
    exact ⟨keep p.1 p.2 ne nf nch e n, free p.1 p.2 nch e n, ne, nf, d⟩
/-- .. where the frame's own object is kept too -/
theorem Inv.un {t' : Nat} (I : Inv X pins σ H s) (u : Un X.fs [] H H' s.heap h') (hok : HOk X.prog X.w H' h') : Inv X pins σ H' { s with heap := h', toks := t' } := by
  obtain ⟨m, ⟨o, es, ep, ho, r⟩, _⟩ := id I.loc
  obtain ⟨sl, hL⟩ := u.any ho I.free (by simp)
  exact I.step (g' := s.gens) (d' := s.drawn) (ch := []) (fun _ z => nomatch z) (fun b o _ hb _ e n => u.keep b o e n hb (by simp)) (fun b o _ hb _ e n => u.slot b o e n hb (by simp)) (fun b o _ e n => u.free b o e n (by simp)) (fun b o _ e => u.there b o e (by simp)) u.tups u.frzs u.tbls (fun m' hm => by
    obtain ⟨o', es', ep', ho', r'⟩ := hm
    rw [ho] at ho'; cases ho'
    exact ⟨_, es', ep', hL, r'⟩) hok I.bare
/-- behind a call (or a comprehension's block): the slots of this frame may have changed too, the records at ch may have turned -/
theorem Inv.call {g' : Array GenState} {t' : Nat} {d' : Drawn} {ch : List Addr} (I : Inv X pins σ H s) (u : Un (frs X.stack) ch H H' s.heap h') (hok : HOk X.prog X.w H' h') (hg : AllBare g')
    (hch : ∀ b ∈ ch, (b ∈ X.ex ∨ X.s₀.heap.objs.size ≤ b) ∧ b ≠ X.env.locals ∧ (∀ x c, X.env.cells.lookup x = some c → c ≠ b) ∧ ∀ p ∈ X.pn ++ pins, p.1 ≠ b) :
    Inv X pins σ H' { s with heap := h', gens := g', drawn := d', toks := t' } := by
  obtain ⟨m, ⟨o, es, ep, ho, r⟩, _⟩ := id I.loc
  obtain ⟨sl, hL⟩ := u.any ho I.free fun z => (hch _ z).2.1 rfl
  exact I.step (ch := ch) hch (fun b o hL hb hc e n => u.keep b o e n (fun z => (List.mem_cons.mp (I.stkSub b z)).elim hL hb) hc) (fun b o _ _ hc e n => u.any e n hc) (fun b o hc e n => u.free b o e n hc) (fun b o hc e => u.there b o e hc) u.tups u.frzs u.tbls (fun m' hm => by
    obtain ⟨o', es', ep', ho', r'⟩ := hm
    rw [ho] at ho'; cases ho'
    exact ⟨_, es', ep', hL, r'⟩) hok hg
/-- an untracked record of ours (an iterator) has turned -/
theorem Inv.turned {t' : Nat} {it : Addr} (I : Inv X pins σ H s) (k : ∀ b o, b ≠ it → s.heap.get? b = some o → h'.get? b = some o) (hn : H it = none) (hL : it ≠ X.env.locals)
    (h1 : it ∈ X.ex ∨ X.s₀.heap.objs.size ≤ it) (h2 : ∀ x c, X.env.cells.lookup x = some c → c ≠ it) (h3 : ∀ p ∈ X.pn ++ pins, p.1 ≠ it) : Inv X pins σ H { s with heap := h', toks := t' } := by
  have nit : ∀ b u, H b = some u → b ≠ it := fun b u e z => by rw [z, hn] at e; cases e
  refine I.step (g' := s.gens) (d' := s.drawn) (ch := [it]) (fun b hb => ?_) (fun b o _ _ hc e _ => k b o (fun z => hc (by simp [z])) e) (fun b o _ _ hc e _ => ⟨o.slots, k b o (fun z => hc (by simp [z])) e⟩) (fun _ _ _ _ n => n)
    (fun b o hc e => ⟨o, k b o (fun z => hc (by simp [z])) e⟩) (fun _ _ e => e) (fun _ _ _ e => e) (fun b ps e => ⟨#[], by rw [e]; simp⟩) (fun m hm => ?_) (fun b u e => ?_) I.bare
  · have e : b = it := by simpa using hb
    subst e
    exact ⟨h1, hL, h2, h3⟩
  · obtain ⟨o, es, ep, ho, r⟩ := hm
    exact ⟨o, es, ep, k _ o (Ne.symm hL) ho, r⟩
  · refine (I.hok b u e).stay (fun c v hc q => k c v ?_ q) (fun _ q => q) fun _ _ q => q
    rcases hc with z | z
    · rw [z]; exact nit b u e
    · exact nit c _ z
theorem Inv.tok (I : Inv X pins σ H s) (t : Nat) : Inv X pins σ H { s with toks := t } := I.un (h' := s.heap) (t' := t) Un.refl I.hok
/-- all objects kept -/
theorem Inv.kept {t' : Nat} (I : Inv X pins σ H s) (k : ∀ b u, s.heap.get? b = some u → h'.get? b = some u) : Inv X pins σ H { s with heap := h', toks := t' } := I.un (Un.kept k) (I.hok.kept k)
/-- a new object laid and tracked -/
theorem Inv.laid {a : Addr} {o : HO} {t' : Nat} (I : Inv X pins σ H s) (k : ∀ b u, s.heap.get? b = some u → h'.get? b = some u) (hp : s.heap.objs.size ≤ a) (new : ObjOk X.prog X.w (upd H a o) h' a o) :
    Inv X pins σ (upd H a o) { s with heap := h', toks := t' } := I.un (Un.laid k hp (I.hok.fresh hp)) (I.hok.laid k hp new)
/-- an object written -/
theorem Inv.write {x e : Addr} {o : HO} {t' : Nat} (I : Inv X pins σ H s) (mu : Mut (H x)) (he : e = x ∨ H e = some (.own x)) (k : ∀ b u, b ≠ e → s.heap.get? b = some u → h'.get? b = some u) (heo : ∃ u, h'.get? e = some u)
    (new : ObjOk X.prog X.w (upd H x o) h' x o) : Inv X pins σ (upd H x o) { s with heap := h', toks := t' } := I.un (Un.write mu he k heo) (I.hok.write mu he k heo new)
/-- forgetting slots, pins -/
theorem Inv.weak {σ' : List (Option V)} (I : Inv X pins σ H s) (hl : σ'.length = σ.length) (w : ∀ (i : Nat) v, σ'[i]? = some (some v) → σ[i]? = some (some v)) : Inv X pins σ' H s :=
  ⟨I.ok, I.os, I.bare, I.base, let ⟨m, hn, hl'⟩ := I.loc; ⟨m, hn, fun i x v e1 e2 e3 => hl' i x v e1 (w i v e2) e3⟩, I.cell, I.free, I.freeC, I.pin, I.hok, hl.trans I.len⟩
theorem Inv.pins_of {pins' : List (Addr × Obj)} (I : Inv X pins σ H s) (h : ∀ p ∈ pins', s.heap.get? p.1 = some p.2 ∧ H p.1 = none ∧ p.1 ≠ X.env.locals ∧ p.1 ∉ X.fs ∧ ∀ v, p.2.data ≠ .cell v) : Inv X pins' σ H s :=
  ⟨I.ok, I.os, I.bare, I.base, I.loc, I.cell, I.free, I.freeC, fun p hp => (List.mem_append.mp hp).elim (fun z => I.pin p (List.mem_append_left _ z)) (h p), I.hok, I.len⟩

theorem nodup_ix {N : List Str} (hN : N.Nodup) {i j : Nat} {x : Str} (a : N[i]? = some x) (b : N[j]? = some x) : i = j := by
  obtain ⟨h1, e1⟩ := List.getElem?_eq_some_iff.mp a
  obtain ⟨h2, e2⟩ := List.getElem?_eq_some_iff.mp b
  exact (List.getElem_inj hN).mp (e1.trans e2.symm)

/-- a name is stored; what changed -/
theorem store_ok2 {M : Model} {A : Around} {E : Value → Shared → Prop} {i : Nat} {x : Str} {v : V} {u : Value} {Q : Unit → Shared → Prop} (I : Inv X pins σ H s) (hN : X.N.Nodup) (hi : X.N[i]? = some x) (hx : Loc X.env.scope x) (r : RelV v u)
    (h : ∀ s', Inv X pins (σ.set i (some v)) H s' → (∃ a, Heap.SameBut a s.heap s'.heap ∧ (a = X.env.locals ∨ X.env.cells.lookup x = some a)) → Q () s') (hf : X.fn x = true ∨ X.env.scope.names.lookup x = some .local := by first | exact .inl rfl | exact .inr rfl | assumption) : wpAny M A (storeName X.env x u) Q E s := by
  obtain ⟨m, hn, hl⟩ := id I.loc
  have hcls : (X.env.scope.kind == .class || (X.env.scope.kind == .module && X.env.locals != X.env.globals)) = false := by rw [I.ok.kind]; rfl
  have hiσ : i < σ.length := by rw [I.len]; exact (List.getElem?_eq_some_iff.mp hi).1
  have cne := I.cne
  have tracked : ∀ {a : Addr} {h' : Heap}, (∃ o, s.heap.get? a = some o ∧ H a = none) → Heap.SameBut a s.heap h' → HOk X.prog X.w H h' := fun {a h'} ha hs b ob e => by
    obtain ⟨_, _, hfree⟩ := ha
    refine (I.hok b ob e).stay (fun c w' hc q => (hs.2 c ?_).trans q) (fun _ q => q) fun _ _ q => q
    rintro rfl
    rcases hc with rfl | hc
    · rw [hfree] at e; cases e
    · rw [hfree] at hc; cases hc
  rcases hx with hk | hk
  · refine wpAny_storeName_local hk hn (fun h' hn' hs => ?_) hcls
    obtain ⟨oL, _, _, hoL, _⟩ := id hn
    refine h _ ⟨I.ok, I.os, I.bare, ⟨fun b o e n hb hx => ?_, fun b o e n hb hx => ?_, I.base.free, fun b o e hx => ?_, I.base.tups, I.base.frzs, I.base.tbls⟩, ⟨_, hn', fun j y v' e1 e2 e3 => ?_⟩, fun y c e => ?_, I.free, I.freeC, fun p hp => ?_, tracked ⟨oL, hoL, I.free⟩ hs, by simpa using I.len⟩ ⟨_, hs, .inl rfl⟩
    · exact (hs.2 b (Nat.ne_of_lt (Nat.lt_of_lt_of_le (Heap.lt_size e) I.ok.above))).trans (I.base.keep b o e n hb hx)
    · obtain ⟨sl, e1⟩ := I.base.slot b o e n hb hx
      exact ⟨sl, (hs.2 b (Nat.ne_of_lt (Nat.lt_of_lt_of_le (Heap.lt_size e) I.ok.above))).trans e1⟩
    · obtain ⟨o', e1⟩ := I.base.there b o e hx
      exact ⟨o', (hs.2 b (Nat.ne_of_lt (Nat.lt_of_lt_of_le (Heap.lt_size e) I.ok.above))).trans e1⟩
    · by_cases hj : j = i
      · subst hj
        rw [hi] at e1; cases e1
        rw [List.getElem?_set_self hiσ] at e2
        cases e2
        exact ⟨u, r, .inl ⟨hk, by simp⟩⟩
      · rw [List.getElem?_set_ne (Ne.symm hj)] at e2
        obtain ⟨u', r', q⟩ := hl j y v' e1 e2 e3
        refine ⟨u', r', ?_⟩
        rcases q with ⟨k, e⟩ | ⟨k, c, e, z⟩
        · refine .inl ⟨k, ?_⟩
          have : y ≠ x := fun e => hj (nodup_ix hN e1 (e ▸ hi))
          simp [this, e]
        · exact .inr ⟨k, c, e, z.sameBut hs (cne y c e)⟩
    · obtain ⟨w', z⟩ := I.cell y c e
      exact ⟨w', z.sameBut hs (cne y c e)⟩
    · obtain ⟨e, n, ne, nf, d⟩ := I.pin p hp
      exact ⟨(hs.2 p.1 ne).trans e, n, ne, nf, d⟩
  · have hfn : X.fn x = true := by
      rcases hf with z | z
      · exact z
      · rw [z] at hk; cases hk
    obtain ⟨c, hc⟩ := I.ok.has x (.inl hk)
    obtain ⟨w', z⟩ := I.cell x c hc
    refine wpAny_storeName_cell I.ok.kind hk hc z (fun h' hc' hs => ?_)
    obtain ⟨oc, hoc, hocd⟩ := id z
    refine h { s with heap := h' } ⟨I.ok, I.os, I.bare, ⟨fun b o e n hb hx => ?_, fun b o e n hb hx => ?_, I.base.free, fun b o e hx => ?_, I.base.tups, I.base.frzs, I.base.tbls⟩, ⟨m, hn.sameBut hs (Ne.symm (cne x c hc)), fun j y v' e1 e2 e3 => ?_⟩, fun y c' e => ?_, I.free, I.freeC, fun p hp => ?_, tracked ⟨oc, hoc, I.freeC x c hc⟩ hs, by simpa using I.len⟩ ⟨c, hs, .inr hc⟩
    · exact (hs.2 b (Nat.ne_of_lt (Nat.lt_of_lt_of_le (Heap.lt_size e) (I.ok.cab x c hfn hc)))).trans (I.base.keep b o e n hb hx)
    · obtain ⟨sl, e1⟩ := I.base.slot b o e n hb hx
      exact ⟨sl, (hs.2 b (Nat.ne_of_lt (Nat.lt_of_lt_of_le (Heap.lt_size e) (I.ok.cab x c hfn hc)))).trans e1⟩
    · obtain ⟨o', e1⟩ := I.base.there b o e hx
      exact ⟨o', (hs.2 b (Nat.ne_of_lt (Nat.lt_of_lt_of_le (Heap.lt_size e) (I.ok.cab x c hfn hc)))).trans e1⟩
    · by_cases hj : j = i
      · subst hj
        rw [hi] at e1; cases e1
        rw [List.getElem?_set_self hiσ] at e2
        cases e2
        exact ⟨u, r, .inr ⟨.inl hk, c, hc, hc'⟩⟩
      · rw [List.getElem?_set_ne (Ne.symm hj)] at e2
        obtain ⟨u', r', q⟩ := hl j y v' e1 e2 e3
        refine ⟨u', r', ?_⟩
        rcases q with q | ⟨k, c', e, z'⟩
        · exact .inl q
        · refine .inr ⟨k, c', e, z'.sameBut hs ?_⟩
          rintro rfl
          exact hj (nodup_ix hN e1 (I.ok.inj _ _ _ e hc ▸ hi))
    · by_cases hcc : c' = c
      · subst hcc; exact ⟨_, hc'⟩
      · obtain ⟨w2, z2⟩ := I.cell y c' e
        exact ⟨w2, z2.sameBut hs hcc⟩
    · obtain ⟨e, n, ne, nf, d⟩ := I.pin p hp
      refine ⟨(hs.2 p.1 ?_).trans e, n, ne, nf, d⟩
      intro q
      rw [q, hoc] at e
      have q' : oc = p.2 := Option.some.inj e
      exact d w' (by rw [← q']; exact hocd)
theorem store_ok {M : Model} {A : Around} {E : Value → Shared → Prop} {i : Nat} {x : Str} {v : V} {u : Value} {Q : Unit → Shared → Prop} (I : Inv X pins σ H s) (hN : X.N.Nodup) (hi : X.N[i]? = some x) (hx : Loc X.env.scope x) (r : RelV v u)
    (h : ∀ s', Inv X pins (σ.set i (some v)) H s' → Q () s') (hf : X.fn x = true ∨ X.env.scope.names.lookup x = some .local := by first | exact .inl rfl | exact .inr rfl | assumption) : wpAny M A (storeName X.env x u) Q E s :=
  store_ok2 I hN hi hx r (fun s' I' _ => h s' I') hf
/-- behind a call or a block, the state as it is -/
theorem Inv.call' {s' : Shared} {ch : List Addr} (I : Inv X pins σ H s) (ho : s'.os = s.os) (u : Un (frs X.stack) ch H H' s.heap s'.heap) (hok : HOk X.prog X.w H' s'.heap) (hg : AllBare s'.gens)
    (hch : ∀ b ∈ ch, (b ∈ X.ex ∨ X.s₀.heap.objs.size ≤ b) ∧ b ≠ X.env.locals ∧ (∀ x c, X.env.cells.lookup x = some c → c ≠ b) ∧ ∀ p ∈ X.pn ++ pins, p.1 ≠ b) : Inv X pins σ H' s' := by
  obtain ⟨h', g', d', t', o'⟩ := s'
  have e : o' = s.os := ho
  subst e
  exact I.call (g' := g') (t' := t') (d' := d') u hok hg hch
end

/-! ### the judgements -/
/-- an exception: its class, its own dict's address (where it has one), the abstract heap behind it -/
noncomputable abbrev XK := Value → Option Addr → Hp → Prop
noncomputable abbrev St := List (Option V)
noncomputable abbrev VK := V → Hp → Prop
/-- an expression's reading; a test's; an argument list's -/
noncomputable abbrev TE := St → Hp → VK → Prop
noncomputable abbrev TT := St → Hp → (Bool → Hp → Prop) → Prop
noncomputable abbrev TA := St → Hp → (List V → Hp → Prop) → Prop
/-- what is wanted behind a statement -/
structure Ends where
  nx : St → Hp → Prop
  rt : VK
  bk : St → Hp → Prop := fun _ _ => False
  ct : St → Hp → Prop := fun _ _ => False
noncomputable abbrev TS := Ends → St → Hp → Prop

noncomputable def EP (X : Cx) (pins : List (Addr × Obj)) (σ : St) (Q : VK) (u : Value) (s' : Shared) : Prop := ∃ v H', Inv X pins σ H' s' ∧ RelV v u ∧ Q v H'
noncomputable def TP (X : Cx) (pins : List (Addr × Obj)) (σ : St) (Q : Bool → Hp → Prop) (b : Bool) (s' : Shared) : Prop := ∃ H', Inv X pins σ H' s' ∧ Q b H'
noncomputable def AP (X : Cx) (pins : List (Addr × Obj)) (σ : St) (Q : List V → Hp → Prop) (us : List Value) (s' : Shared) : Prop := ∃ vs H', Inv X pins σ H' s' ∧ Vals vs us ∧ Q vs H'
noncomputable def SP (X : Cx) (pins : List (Addr × Obj)) (D : Ends) (f : Flow) (s' : Shared) : Prop :=
  match f with
  | .next => ∃ σ' H', Inv X pins σ' H' s' ∧ D.nx σ' H'
  | .brk => ∃ σ' H', Inv X pins σ' H' s' ∧ D.bk σ' H'
  | .cont => ∃ σ' H', Inv X pins σ' H' s' ∧ D.ct σ' H'
  | .ret u => ∃ v σ' H', Inv X pins σ' H' s' ∧ RelV v u ∧ D.rt v H'

noncomputable def PE (X : Cx) (e : Expr) (t : TE) : Prop :=
  ∀ (pins : List (Addr × Obj)) (s : Shared) (σ : St) (H : Hp) (Q : VK), Inv X pins σ H s → t σ H Q → wpAny (model X.prog X.w) X.A (eval e X.env) (EP X pins σ Q) X.xe s
noncomputable def PT (X : Cx) (e : Expr) (t : TT) : Prop :=
  ∀ (pins : List (Addr × Obj)) (s : Shared) (σ : St) (H : Hp) (Q : Bool → Hp → Prop), Inv X pins σ H s → t σ H Q → wpAny (model X.prog X.w) X.A (isTrue e X.env (eval e X.env)) (TP X pins σ Q) X.xe s
/-- a test whatever its 'whole' is (and, or) -/
noncomputable def PW (X : Cx) (e : Expr) (t : TT) : Prop :=
  ∀ (whole : Sem Value) (pins : List (Addr × Obj)) (s : Shared) (σ : St) (H : Hp) (Q : Bool → Hp → Prop), Inv X pins σ H s → t σ H Q → wpAny (model X.prog X.w) X.A (isTrue e X.env whole) (TP X pins σ Q) X.xe s
theorem PW.pt {X : Cx} {e : Expr} {t : TT} (h : PW X e t) : PT X e t := h _
/-- an argument list (no star), from the left -/
noncomputable def PA (X : Cx) (es : List Expr) (t : TA) : Prop :=
  ∀ (pos : Pos) (pins : List (Addr × Obj)) (s : Shared) (σ : St) (H : Hp) (Q : List V → Hp → Prop), Inv X pins σ H s → t σ H Q → wpAny (model X.prog X.w) X.A (spliced (backTo pos (starEach es X.env))) (AP X pins σ Q) X.xe s
noncomputable def PS (X : Cx) (st : Stmt) (t : TS) : Prop :=
  ∀ (pins : List (Addr × Obj)) (s : Shared) (σ : St) (H : Hp) (D : Ends), Inv X pins σ H s → t D σ H → wpAny (model X.prog X.w) X.A (exec st X.env) (SP X pins D) X.xe s
noncomputable def PSs (X : Cx) (st : List Stmt) (t : TS) : Prop :=
  ∀ (pins : List (Addr × Obj)) (s : Shared) (σ : St) (H : Hp) (D : Ends), Inv X pins σ H s → t D σ H → wpAny (model X.prog X.w) X.A (execs st X.env) (SP X pins D) X.xe s
/-- weaken the end -/
theorem thn {α : Type} {t : Sem α} {Q Q' : α → Shared → Prop} {M : Model} {A : Around} {E : Value → Shared → Prop} {s : Shared} (h : wpAny M A t Q E s) (hQ : ∀ a s, Q a s → Q' a s) : wpAny M A t Q' E s := wpAny_mono h hQ fun _ _ x => x
end L2

namespace L2
open PySem PySem.Spec PyProof.Rows
section
variable {X : Cx}


/-! ### names and constants -/
noncomputable def tVar (i : Nat) : TE := fun σ H Q => ∃ v, σ[i]? = some (some v) ∧ Q v H
noncomputable def tC (v : V) : TE := fun _ H Q => Q v H
theorem pe_var {i : Nat} {x : Str} {pos : Pos} (hN : X.N[i]? = some x) (hv : Vis X.env.scope x) (hd : (x == ("__debug__" : Str)) = false := by decide) (hcd : (x == ("__classdict__" : Str)) = false := by decide) : PE X (.Name x pos) (tVar i) := by
  intro pins s σ H Q I h
  obtain ⟨v, e, h⟩ := h
  obtain ⟨m, hn, hl⟩ := I.loc
  obtain ⟨u, r, l⟩ := hl i x v hN e hv
  have fin : EP X pins σ Q u s := ⟨v, H, I, r, h⟩
  rcases l with ⟨hk, hm⟩ | ⟨hk, c, hc, hcell⟩
  · exact wpAny_Name (wpAny_loadName_local I.ok.kind hk hn hm fin) hd
  · rcases hk with hk | hk
    · exact wpAny_Name (wpAny_loadName_cell I.ok.kind hk hc hcell fin) hd
    · exact wpAny_Name (wpAny_loadName_free I.ok.kind hk hc hcell fin hcd) hd
theorem pe_int {i j pos} : PE X (.Constant (.int i) j pos) (tC (.int i)) := fun _ _ _ H _ I h => wpAny_Constant_int ⟨.int i, H, I.tok _, ⟨_, rfl⟩, h⟩
theorem pe_bl {b j pos} : PE X (.Constant (.bool b) j pos) (tC (.bl b)) := fun _ _ _ H _ I h => Constant_bool ⟨.bl b, H, I, rfl, h⟩
theorem pe_non {j pos} : PE X (.Constant .none j pos) (tC .non) := fun _ _ _ H _ I h => Constant_none ⟨.non, H, I, rfl, h⟩
theorem pe_str {x j pos} : PE X (.Constant (.str x) j pos) (tC (.str x)) := fun _ _ _ H _ I h => Calls.Constant_str ⟨.str x, H, I.tok _, ⟨_, rfl⟩, h⟩

/-- a global name of the def -/
noncomputable def Gl (X : Cx) (x : Str) : Prop := X.env.kindOf x = some .globalImplicit
theorem ld_glob {E : Value → Shared → Prop} {pins : List (Addr × Obj)} {s : Shared} {σ : St} {H : Hp} {x : Str} {u : Value} {pos : Pos} {Q : Value → Shared → Prop} (I : Inv X pins σ H s) (hg : Gl X x) (hm : X.mg x = some u) (h : Q u s)
    (hd : (x == ("__debug__" : Str)) = false := by decide) : wpAny (model X.prog X.w) X.A (eval (.Name x pos) X.env) Q E s :=
  Calls.Name_function_global I.ok.kind hg (Calls.loadGlobal_global (by rw [I.ok.glob]; exact I.mod.glob.keeps I.bk) hm h) hd
theorem ld_blt {E : Value → Shared → Prop} {pins : List (Addr × Obj)} {s : Shared} {σ : St} {H : Hp} {x : Str} {u : Value} {pos : Pos} {Q : Value → Shared → Prop} (I : Inv X pins σ H s) (hg : Gl X x) (hm : X.mg x = none) (hv : bootBuiltins x = some u) (h : Q u s)
    (hn : x ≠ "__name__" := by decide) (hd : (x == ("__debug__" : Str)) = false := by decide) : wpAny (model X.prog X.w) X.A (eval (.Name x pos) X.env) Q E s := by
  obtain ⟨mb, h1, h2⟩ := I.mod.blt
  exact Calls.Name_function_global I.ok.kind hg (Calls.loadGlobal_builtin (by rw [I.ok.glob]; exact I.mod.glob.keeps I.bk) hm (by rw [I.ok.blt]; exact h1.keeps I.bk) ((h2 x hn).trans hv) h) hd
/-- a module's constant, a class, a function, as a value -/
theorem pe_glob {x : Str} {v : V} {u : Value} {pos : Pos} (hg : Gl X x) (hm : X.mg x = some u) (r : RelV v u) (hd : (x == ("__debug__" : Str)) = false := by decide) : PE X (.Name x pos) (tC v) :=
  fun _ _ _ H _ I h => ld_glob I hg hm ⟨v, H, I, r, h⟩ hd
theorem pe_bltn {x : Str} {v : V} {u : Value} {pos : Pos} (hg : Gl X x) (hm : X.mg x = none) (hv : bootBuiltins x = some u) (r : RelV v u) (hn : x ≠ "__name__" := by decide) (hd : (x == ("__debug__" : Str)) = false := by decide) : PE X (.Name x pos) (tC v) :=
  fun _ _ _ H _ I h => ld_blt I hg hm hv ⟨v, H, I, r, h⟩ hn hd

/-! ### arithmetic -/
variable {a b : Expr} {ta tb : TE} {pos : Pos}

/-! ### comparisons -/
/-- a comparison as a value, as a test -/
noncomputable def tB (t : TE) : TT := fun σ H Q => t σ H fun x H1 => ∃ c, x = .bl c ∧ Q c H1
/-- an expression whose value is a bool, as a test -/
theorem pt_val {e : Expr} {t : TE} (h : PE X e t) (he : ∀ whole, isTrue e X.env whole = (do let v ← whole; standAt e.pos; holding [v] (truthy v)) := by intro _; rfl) : PT X e (tB t) := by
  intro pins s σ H Q I hw
  refine isTrue_plain (thn (h pins s σ H _ I hw) fun v s1 ⟨x, H1, I1, r1, q1⟩ => ?_) (he _)
  obtain ⟨d, rfl, q⟩ := q1
  cases r1
  exact wpAny_truthy_bool ⟨H1, I1, q⟩

/-! ### and, or, not -/
variable {tA tB' : TT} {rest : List Expr}
noncomputable def tAnd (t u : TT) : TT := fun σ H Q => t σ H fun c H1 => if c = true then u σ H1 Q else Q false H1
noncomputable def tOr (t u : TT) : TT := fun σ H Q => t σ H fun c H1 => if c = true then Q true H1 else u σ H1 Q
noncomputable def tNot (t : TT) : TT := fun σ H Q => t σ H fun c H1 => Q (!c) H1
theorem pw_or1 (ha : PT X a tA) : PW X (.BoolOp .Or [a] pos) tA := by
  intro wh pins s σ H Q I h
  refine isTrue_or (thn (ha pins s σ H Q I h) fun c s1 e => ?_)
  cases c with
  | false => exact isTrue_or_nil e
  | true => exact e
theorem pw_or (ha : PT X a tA) (hb : PW X (.BoolOp .Or (b :: rest) pos) tB') : PW X (.BoolOp .Or (a :: b :: rest) pos) (tOr tA tB') := by
  intro wh pins s σ H Q I h
  refine isTrue_or (thn (ha pins s σ H _ I h) fun c s1 ⟨H1, I1, q1⟩ => ?_)
  cases c with
  | true => exact ⟨H1, I1, q1⟩
  | false => exact hb wh pins s1 σ H1 Q I1 q1
theorem pt_not (ha : PT X a tA) : PT X (.UnaryOp .Not a pos) (tNot tA) := by
  intro pins s σ H Q I h
  exact isTrue_not (ha pins s σ H (fun c H1 => Q (!c) H1) I h)
/-- .. as values (bools) -/
noncomputable def tAndV (ta tb : TE) : TE := fun σ H Q => ta σ H fun x H1 => ∃ c, x = .bl c ∧ if c = true then tb σ H1 Q else Q (.bl false) H1
noncomputable def tOrV (ta tb : TE) : TE := fun σ H Q => ta σ H fun x H1 => ∃ c, x = .bl c ∧ if c = true then Q (.bl true) H1 else tb σ H1 Q
noncomputable def tNotV (ta : TE) : TE := fun σ H Q => ta σ H fun x H1 => ∃ c, x = .bl c ∧ Q (.bl (!c)) H1
theorem pe_one {op} {t : TE} (h : PE X a t) : PE X (.BoolOp op [a] pos) t := fun pins s σ H Q I hw => BoolOp_one (h pins s σ H Q I hw)
theorem pe_and (ha : PE X a ta) (hb : PE X (.BoolOp .And (b :: rest) pos) tb) : PE X (.BoolOp .And (a :: b :: rest) pos) (tAndV ta tb) := by
  intro pins s σ H Q I h
  refine BoolOp_and (thn (ha pins s σ H _ I h) fun v s1 ⟨x, H1, I1, r1, q1⟩ => ?_)
  obtain ⟨c, rfl, q1⟩ := q1
  cases r1
  refine wpAny_truthy_bool ?_
  cases c with
  | true => exact hb pins s1 σ H1 Q I1 q1
  | false => exact ⟨.bl false, H1, I1, rfl, q1⟩
/-- a if t else b -/
noncomputable def tIf (t : TT) (ta tb : TE) : TE := fun σ H Q => t σ H fun c H1 => if c = true then ta σ H1 Q else tb σ H1 Q
theorem pe_ifExp {c : Expr} (hc : PT X c tA) (ha : PE X a ta) (hb : PE X b tb) : PE X (.IfExp c a b pos) (tIf tA ta tb) := by
  intro pins s σ H Q I h
  refine wpAny_IfExp (thn (hc pins s σ H _ I h) fun d s1 ⟨H1, I1, q1⟩ => ?_)
  cases d with
  | true => exact ha pins s1 σ H1 Q I1 q1
  | false => exact hb pins s1 σ H1 Q I1 q1
end
end L2

namespace L2
open PySem PySem.Spec PyProof.Rows

/-! ### a list, a tuple that is read: tracked, frozen, or an object of the module -/
noncomputable def SqL (K : PySem.W.Frag) (H : Hp) (a : Addr) (xs : List V) : Prop :=
  Rd H a (.lst xs) ∨
    ∃ (o : Obj) (its : Array Value) (n : Nat), K.lookup a = some o ∧ o.cls = .type "list" ∧ o.dict = none ∧ o.data = .seq its n ∧ its.size ≤ sizeLine ∧ Vals xs its.toList
noncomputable def SqT (K : PySem.W.Frag) (H : Hp) (a : Addr) (xs : List V) : Prop :=
  Rd H a (.tup xs) ∨
    ∃ (o : Obj) (its : Array Value) (n : Nat), K.lookup a = some o ∧ o.cls = .type "tuple" ∧ o.data = .seq its n ∧ its.size ≤ sizeLine ∧ Vals xs its.toList
noncomputable def absV : Value → Option V
  | .none => some .non
  | .bool b => some (.bl b)
  | .int i _ => some (.int i)
  | .str x _ => some (.str x)
  | .bytes b _ => some (.byt b)
  | .float b _ => some (.flt b)
  | .ref a => some (.ref a)
  | .type n => some (.ty n)
  | _ => none
theorem RelV.abs {x : V} {u : Value} (r : RelV x u) : absV u = some x := by
  cases x with
  | non => cases r; rfl
  | bl _ => cases r; rfl
  | int _ => obtain ⟨t, rfl⟩ := r; rfl
  | str _ => obtain ⟨t, rfl⟩ := r; rfl
  | byt _ => obtain ⟨t, rfl⟩ := r; rfl
  | flt _ => obtain ⟨t, rfl⟩ := r; rfl
  | ref _ => cases r; rfl
  | ty _ => cases r; rfl
theorem RelV.inj {x y : V} {u : Value} (r : RelV x u) (q : RelV y u) : x = y := Option.some.inj (r.abs.symm.trans q.abs)
theorem Vals.inj : ∀ {xs ys : List V} {us : List Value}, Vals xs us → Vals ys us → xs = ys
  | _, _, _, .nil, .nil => rfl
  | _, _, _, .cons r t, .cons r' t' => by rw [r.inj r', Vals.inj t t']
section
variable {X : Cx} {pins : List (Addr × Obj)} {σ : St} {H : Hp} {s : Shared} {a : Addr} {xs ys : List V}
theorem SqL.of {K : PySem.W.Frag} (h : H a = some (.lst xs)) : SqL K H a xs := .inl (.inl h)
theorem SqT.of {K : PySem.W.Frag} (h : H a = some (.tup xs)) : SqT K H a xs := .inl (.inl h)
theorem Inv.list (I : Inv X pins σ H s) (h : SqL X.K H a xs) : ∃ its : List Value, Vals xs its ∧ PlainL s.heap a its.toArray ∧ xs.length ≤ sizeLine := by
  rcases h with h | ⟨o, its, n, hk, hc, hd, hs, hz, r⟩
  · obtain ⟨z, its, n, r, e⟩ := h.ok I.hok
    exact ⟨its, r, ⟨_, n, e, rfl, rfl, rfl⟩, z⟩
  · refine ⟨its.toList, r, ⟨o, n, I.kIn a o hk, hc, hd, by simpa using hs⟩, ?_⟩
    have e := r.length
    simp only [Array.length_toList] at e
    omega
theorem Inv.tuple (I : Inv X pins σ H s) (h : SqT X.K H a xs) : ∃ its : List Value, Vals xs its ∧ IsTup s.heap a its.toArray ∧ xs.length ≤ sizeLine := by
  rcases h with h | ⟨o, its, n, hk, hc, hs, hz, r⟩
  · obtain ⟨z, its, r, p⟩ := h.ok I.hok
    exact ⟨its, r, p.1, z⟩
  · refine ⟨its.toList, r, ⟨o, I.kIn a o hk, hc, n, by simpa using hs⟩, ?_⟩
    have e := r.length
    simp only [Array.length_toList] at e
    omega
theorem Inv.list_inj (I : Inv X pins σ H s) (h : SqL X.K H a xs) (h' : SqL X.K H a ys) : xs = ys := by
  obtain ⟨its, r, ⟨o, n, e, _, _, d⟩, _⟩ := I.list h
  obtain ⟨its', r', ⟨o', n', e', _, _, d'⟩, _⟩ := I.list h'
  rw [e] at e'; cases e'
  rw [d] at d'
  injection d' with d1 _
  have : its = its' := by simpa using congrArg Array.toList d1
  subst this
  exact r.inj r'
theorem Inv.tuple_inj (I : Inv X pins σ H s) (h : SqT X.K H a xs) (h' : SqT X.K H a ys) : xs = ys := by
  obtain ⟨its, r, ⟨o, e, _, n, d⟩, _⟩ := I.tuple h
  obtain ⟨its', r', ⟨o', e', _, n', d'⟩, _⟩ := I.tuple h'
  rw [e] at e'; cases e'
  rw [d] at d'
  injection d' with d1 _
  have : its = its' := by simpa using congrArg Array.toList d1
  subst this
  exact r.inj r'
end

/-! ### another wish about exceptions -/
noncomputable abbrev Cx.wish (X : Cx) (E : Value → Shared → Prop) : Cx := { X with xe := E }
/-- no exception leaves -/
noncomputable abbrev Cx.nox (X : Cx) : Cx := X.wish fun _ _ => False
theorem Cx.Ok.wish {X : Cx} (ok : X.Ok) (E : Value → Shared → Prop) : (X.wish E).Ok :=
  ⟨ok.mod, ok.kind, ok.glob, ok.blt, ok.above, ok.inj, ok.has, ok.cab, ok.hd, ok.frames, ok.stk, ok.exf, ok.bs, ok.bsz, ok.noex, ok.exfs, ok.funs, ok.frf⟩
theorem Cx.Ok.unwish {X : Cx} {E : Value → Shared → Prop} (ok : (X.wish E).Ok) : X.Ok :=
  ⟨ok.mod, ok.kind, ok.glob, ok.blt, ok.above, ok.inj, ok.has, ok.cab, ok.hd, ok.frames, ok.stk, ok.exf, ok.bs, ok.bsz, ok.noex, ok.exfs, ok.funs, ok.frf⟩
section
variable {X : Cx} {pins : List (Addr × Obj)} {σ : St} {H : Hp} {s : Shared} {E : Value → Shared → Prop}
theorem Inv.wish (I : Inv X pins σ H s) (E : Value → Shared → Prop) : Inv (X.wish E) pins σ H s := ⟨I.ok.wish E, I.os, I.bare, I.base, I.loc, I.cell, I.free, I.freeC, I.pin, I.hok, I.len⟩
theorem Inv.unwish (I : Inv (X.wish E) pins σ H s) : Inv X pins σ H s := ⟨I.ok.unwish, I.os, I.bare, I.base, I.loc, I.cell, I.free, I.freeC, I.pin, I.hok, I.len⟩
theorem SP.unwish {D : Ends} {f : Flow} {s' : Shared} (h : SP (X.wish E) pins D f s') : SP X pins D f s' := by
  cases f with
  | next => obtain ⟨σ', H', I, q⟩ := h; exact ⟨σ', H', I.unwish, q⟩
  | brk => obtain ⟨σ', H', I, q⟩ := h; exact ⟨σ', H', I.unwish, q⟩
  | cont => obtain ⟨σ', H', I, q⟩ := h; exact ⟨σ', H', I.unwish, q⟩
  | ret u => obtain ⟨v, σ', H', I, r, q⟩ := h; exact ⟨v, σ', H', I.unwish, r, q⟩
theorem PE.nox {e : Expr} {t : TE} (h : PE X.nox e t) : PE X e t := fun pins s σ H Q I hw =>
  wpAny_mono (h pins s σ H Q (I.wish _) hw) (fun _ _ ⟨v, H', I', r, q⟩ => ⟨v, H', I'.unwish, r, q⟩) fun _ _ z => False.elim z
theorem PT.nox {e : Expr} {t : TT} (h : PT X.nox e t) : PT X e t := fun pins s σ H Q I hw =>
  wpAny_mono (h pins s σ H Q (I.wish _) hw) (fun _ _ ⟨H', I', q⟩ => ⟨H', I'.unwish, q⟩) fun _ _ z => False.elim z
theorem PSs.nox {st : List Stmt} {t : TS} (h : PSs X.nox st t) : PSs X st t := fun pins s σ H D I hw =>
  wpAny_mono (h pins s σ H D (I.wish _) hw) (fun _ _ q => q.unwish) fun _ _ z => False.elim z
end

/-! ### blocks and small statements -/
section
variable {X : Cx} {st : Stmt} {rest : List Stmt} {t u : TS} {e : Expr} {te : TE} {pos : Pos}
noncomputable def tNext : TS := fun D σ H => D.nx σ H
noncomputable def tSeq (t u : TS) : TS := fun D σ H => t { D with nx := u D } σ H
theorem pss_nil : PSs X [] tNext := fun _ _ σ H _ I h => wpAny_execs_nil ⟨σ, H, I, h⟩
theorem pss_cons (h1 : PS X st t) (h2 : PSs X rest u) : PSs X (st :: rest) (tSeq t u) := by
  intro pins s σ H D I h
  refine wpAny_execs_cons (thn (h1 pins s σ H { D with nx := u D } I h) fun f s1 q => ?_)
  cases f with
  | next =>
    obtain ⟨σ', H', I', q⟩ := q
    exact h2 pins s1 σ' H' D I' q
  | ret v => exact q
  | brk => exact q
  | cont => exact q
theorem pss_one (h1 : PS X st t) : PSs X [st] t := by
  intro pins s σ H D I h
  refine wpAny_execs_cons (thn (h1 pins s σ H D I h) fun f s1 q => ?_)
  cases f with
  | next => exact wpAny_execs_nil q
  | ret v => exact q
  | brk => exact q
  | cont => exact q
/-- in a def's body nothing is shown -/
theorem Inv.quiet {pins : List (Addr × Obj)} {σ : St} {H : Hp} {s : Shared} (I : Inv X pins σ H s) : interactive X.env = false := by simp [interactive, I.ok.kind]
/-- an expression whose value is dropped -/
noncomputable def tDrop (te : TE) : TS := fun D σ H => te σ H fun _ H1 => D.nx σ H1
theorem ps_expr (he : PE X e te) (hs : swapsWith e none pos.line X.env = pure false := by rfl) : PS X (.Expr e pos) (tDrop te) := by
  intro pins s σ H D I h
  exact wpAny_Expr_any (thn (he pins s σ H _ I h) fun v s1 ⟨x, H1, I1, r1, q1⟩ => ⟨σ, H1, I1, q1⟩) I.quiet hs
noncomputable def tRet (te : TE) : TS := fun D σ H => te σ H D.rt
theorem ps_ret (he : PE X e te) : PS X (.Return (some e) pos) (tRet te) := by
  intro pins s σ H D I h
  exact wpAny_Return_some (thn (he pins s σ H _ I h) fun v s1 ⟨x, H1, I1, r1, q1⟩ => ⟨x, σ, H1, I1, r1, q1⟩)
noncomputable def tIfS (c : TT) (t u : TS) : TS := fun D σ H => c σ H fun b H1 => if b = true then t D σ H1 else u D σ H1
theorem ps_if {c : Expr} {a b : List Stmt} {tc : TT} (hc : PT X c tc) (ha : PSs X a t) (hb : PSs X b u) : PS X (.If c a b pos) (tIfS tc t u) := by
  intro pins s σ H D I h
  refine wpAny_If (thn (hc pins s σ H _ I h) fun d s1 ⟨H1, I1, q1⟩ => ?_)
  cases d with
  | true => exact ha pins s1 σ H1 D I1 q1
  | false => exact hb pins s1 σ H1 D I1 q1
end

/-! ### targets -/
noncomputable abbrev TG := V → St → Hp → (St → Hp → Prop) → Prop
noncomputable abbrev TGs := List V → St → Hp → (St → Hp → Prop) → Prop
noncomputable def PG (X : Cx) (target : Expr) (t : TG) : Prop :=
  ∀ (pins : List (Addr × Obj)) (s : Shared) (σ : St) (H : Hp) (v : V) (u : Value) (Q : St → Hp → Prop), Inv X pins σ H s → RelV v u → t v σ H Q →
    wpAny (model X.prog X.w) X.A (assign target X.env u) (fun _ s' => ∃ σ' H', Inv X pins σ' H' s' ∧ Q σ' H') X.xe s
/-- several targets, one after another -/
noncomputable def PGs (X : Cx) (ts : List Expr) (t : TGs) : Prop :=
  ∀ (pins : List (Addr × Obj)) (s : Shared) (σ : St) (H : Hp) (vs : List V) (us : List Value) (Q : St → Hp → Prop), Inv X pins σ H s → Vals vs us → t vs σ H Q →
    wpAny (model X.prog X.w) X.A (assignInOrder ((assignEach ts X.env).map (·.2)) us) (fun _ s' => ∃ σ' H', Inv X pins σ' H' s' ∧ Q σ' H') X.xe s
/-- o[i] = v, by values -/
noncomputable abbrev TSet := V → V → V → Hp → (Hp → Prop) → Prop
section
variable {X : Cx} {pos : Pos}
noncomputable def gName (i : Nat) : TG := fun v σ H Q => Q (σ.set i (some v)) H
theorem pg_name {i : Nat} {x : Str} (hN : X.N.Nodup) (hi : X.N[i]? = some x) (hx : Loc X.env.scope x) (hf : X.fn x = true ∨ X.env.scope.names.lookup x = some .local := by first | exact .inl rfl | exact .inr rfl | assumption) : PG X (.Name x pos) (gName i) := by
  intro pins s σ H v u Q I r h
  exact wpAny_assign_Name (store_ok I hN hi hx r (fun s' I' => ⟨_, H, I', h⟩) hf)
noncomputable def gNil : TGs := fun vs σ H Q => vs = [] ∧ Q σ H
noncomputable def gCons (t : TG) (u : TGs) : TGs := fun vs σ H Q => ∃ v r, vs = v :: r ∧ t v σ H fun σ' H' => u r σ' H' Q
theorem pgs_nil : PGs X [] gNil := by
  intro pins s σ H vs us Q I r h
  obtain ⟨e, h⟩ := h
  subst e
  cases r
  exact assignInOrder_nil ⟨σ, H, I, h⟩
theorem pgs_cons {e : Expr} {es : List Expr} {t : TG} {u : TGs} (h1 : PG X e t) (h2 : PGs X es u)
    (hs : (assignEach (e :: es) X.env).map (·.2) = assign e X.env :: (assignEach es X.env).map (·.2) := by rfl) : PGs X (e :: es) (gCons t u) := by
  intro pins s σ H vs us Q I r h
  obtain ⟨v, vr, e1, h⟩ := h
  subst e1
  cases r with
  | cons r rr =>
    rw [hs]
    refine assignInOrder_cons (thn (h1 pins s σ H _ _ _ I r h) fun _ s1 ⟨σ1, H1, I1, q1⟩ => ?_)
    exact h2 pins s1 σ1 H1 _ _ Q I1 rr q1
/-- (a, b, ..) = a tuple of that length -/
noncomputable def gTup (K : PySem.W.Frag) (n : Nat) (t : TGs) : TG := fun v σ H Q => ∃ a xs, v = .ref a ∧ SqT K H a xs ∧ xs.length = n ∧ t xs σ H Q
theorem pg_tup {es : List Expr} {k : Nat} {t : TGs} {n : Nat} (hc : X.calm = true) (h : PGs X es t)
    (hn : (assignEach es X.env).length = n := by rfl) (hst : (assignEach es X.env).findIdx? (·.1) = none := by rfl) : PG X (.Tuple es k pos) (gTup X.K n t) := by
  intro pins s σ H v u Q I r hw
  obtain ⟨a, xs, e1, hq, hl, hw⟩ := hw
  subst e1
  cases r
  obtain ⟨its, rv, ht, hz⟩ := I.tuple hq
  refine assign_Tuple_tuple (I.ok.hd hc) ht (by simp [hn, ← hl, rv.length]) hst fun h' hx => ?_
  have I1 : Inv X pins σ H { s with heap := h' } := I.kept (t' := s.toks) fun b o e => hx b o (Nat.ne_of_lt (Heap.lt_size e)) e
  exact h pins _ σ H xs _ Q I1 (by simpa using rv) hw
/-- o[i] = .. -/
noncomputable def gSub (to ti : TE) (t : TSet) : TG := fun v σ H Q => to σ H fun o H1 => ti σ H1 fun i H2 => t o i v H2 fun H3 => Q σ H3
/-- target = value -/
noncomputable def tAsg (te : TE) (g : TG) : TS := fun D σ H => te σ H fun x H1 => g x σ H1 D.nx
theorem ps_asg {tg e : Expr} {te : TE} {g : TG} (he : PE X e te) (hg : PG X tg g) (hs : swapsWithSole [tg] e pos.line X.env = pure false := by rfl) (hw : swappedStores [tg] e X.env = pure none := by rfl)
    (h1 : (assignEach [tg] X.env).map (·.2) = [assign tg X.env] := by rfl) : PS X (.Assign [tg] e pos) (tAsg te g) := by
  intro pins s σ H D I h
  refine wpAny_Assign_stores (thn (he pins s σ H _ I h) fun v s1 ⟨x, H1, I1, r1, q1⟩ => ?_) hs hw
  rw [h1]
  exact thn (hg pins s1 σ H1 x v _ I1 r1 q1) fun _ s2 q => q
/-- name = value -/
theorem ps_set {i : Nat} {x : Str} {e : Expr} {te : TE} {pos' : Pos} (hN : X.N.Nodup) (hi : X.N[i]? = some x) (hx : Loc X.env.scope x) (he : PE X e te) (hs : swapsWith e (some (.Name x pos')) pos.line X.env = pure false := by rfl) (hf : X.fn x = true ∨ X.env.scope.names.lookup x = some .local := by first | exact .inl rfl | exact .inr rfl | assumption) :
    PS X (.Assign [.Name x pos'] e pos) (tAsg te (gName i)) := by
  intro pins s σ H D I h
  refine wpAny_Assign_Name (thn (he pins s σ H _ I h) fun v s1 ⟨y, H1, I1, r1, q1⟩ => ?_) hs
  exact store_ok I1 hN hi hx r1 (fun s2 I2 => ⟨_, H1, I2, q1⟩) hf
end

/-! ### while -/
section
variable {X : Cx} {pos : Pos}
/-- the invariant W with its measure -/
noncomputable def tWhile (c : TT) (tb : TS) : TS := fun D σ H => ∃ W : Nat → St → Hp → Prop, (∃ m, W m σ H) ∧ ∀ m σ H, W m σ H →
  c σ H fun b H1 => if b = true then ∃ N : St → Hp → Prop, (∀ σ' H', N σ' H' → ∃ m', m' < m ∧ W m' σ' H') ∧ tb { D with nx := N, ct := N, bk := D.nx } σ H1 else D.nx σ H1
end

/-! ### what a loop or a comprehension walks -/
/-- at turn i: it yields x (the heap may grow), or it stops -/
structure It where
  go : Nat → Hp → Prop
  yld : Nat → Hp → V → Hp → Prop
  stop : Nat → Hp → Prop
/-- the iterator's own objects may turn: they are not the frame's, not pinned, younger than the entry (or a comprehension's own) -/
noncomputable def FpOk (X : Cx) (pins : List (Addr × Obj)) (H : Hp) (b : Addr) : Prop :=
  H b = none ∧ b ≠ X.env.locals ∧ b ∉ X.fs ∧ (b ∈ X.ex ∨ X.s₀.heap.objs.size ≤ b) ∧ (∀ x c, X.env.cells.lookup x = some c → c ≠ b) ∧ ∀ p ∈ X.pn ++ pins, p.1 ≠ b
theorem Inv.fpOk {X : Cx} {pins : List (Addr × Obj)} {σ : St} {H H' : Hp} {s : Shared} {b : Addr} (I : Inv X pins σ H s) (hb : s.heap.objs.size ≤ b) (hn : H' b = none) : FpOk X pins H' b := by
  refine ⟨hn, Nat.ne_of_gt (Nat.lt_of_lt_of_le I.lt hb), I.nofs hb, .inr (Nat.le_trans I.sz hb), fun x c e z => ?_, fun p hp z => ?_⟩
  · obtain ⟨v, q⟩ := I.cell x c e
    exact absurd (Nat.lt_of_lt_of_le q.lt (by rw [z]; exact hb)) (Nat.lt_irrefl _)
  · exact absurd (Nat.lt_of_lt_of_le (Heap.lt_size (I.pin p hp).1) (by rw [z]; exact hb)) (Nat.lt_irrefl _)
structure Turn (P : Program) (w : World) (K : PySem.W.Frag) (tg : Expr) (J : It) (fp : List Addr) (it : Addr) (tn : Nat → Heap → Prop) : Prop where
  mem : it ∈ fp
  obj : ∀ i h, tn i h → ∀ b ∈ fp, ∃ o, h.get? b = some o ∧ ∀ v, o.data ≠ .cell v
  keep : ∀ i h h', tn i h → (∀ b ∈ fp, ∀ o, h.get? b = some o → h'.get? b = some o) → tn i h'
  item : ∀ (X : Cx), X.prog = P → X.w = w → X.K = K → X.calm = true → ∀ (i : Nat) (pins : List (Addr × Obj)) (s : Shared) (σ : St) (H : Hp) (E : Value → Shared → Prop), Inv X pins σ H s → (∀ b ∈ fp, FpOk X pins H b) → tn i s.heap → J.go i H →
    wpAny (model P w) X.A (pyNext (.ref it)) (fun r s1 => ∃ u, r = some u ∧
      wpAny (model P w) X.A (letOwnedTupleGo tg (.ref it) u) (fun _ s2 => ∃ x H', Inv X pins σ H' s2 ∧ RelV x u ∧ J.yld i H x H' ∧ tn (i + 1) s2.heap ∧ ∀ b ∈ fp, H' b = none) E s1) E s
  done : ∀ (X : Cx), X.prog = P → X.w = w → X.K = K → X.calm = true → ∀ (i : Nat) (pins : List (Addr × Obj)) (s : Shared) (σ : St) (H : Hp) (E : Value → Shared → Prop), Inv X pins σ H s → (∀ b ∈ fp, FpOk X pins H b) → tn i s.heap → J.stop i H →
    wpAny (model P w) X.A (pyNext (.ref it)) (fun r s1 => r = none ∧ Inv X pins σ H s1) E s
  self : ∀ (A : Around) (i : Nat) (s : Shared) (Q : Value → Shared → Prop) (E : Value → Shared → Prop), tn i s.heap → Q (.ref it) s → wpAny (model P w) A (pyIter (.ref it)) Q E s
noncomputable abbrev TI := St → Hp → (It → Hp → Prop) → Prop
/-- an iterator has come -/
noncomputable def PIE (X : Cx) (pins : List (Addr × Obj)) (σ : St) (tg : Expr) (R : It → Hp → Prop) (itv : Value) (s2 : Shared) : Prop :=
  ∃ (it : Addr) (fp : List Addr) (tn : Nat → Heap → Prop) (J : It) (H' : Hp), itv = .ref it ∧ Inv X pins σ H' s2 ∧ Turn X.prog X.w X.K tg J fp it tn ∧ tn 0 s2.heap ∧ (∀ b ∈ fp, FpOk X pins H' b) ∧ R J H'
noncomputable def PI (X : Cx) (tg iter : Expr) (wi : TI) : Prop :=
  ∀ (pins : List (Addr × Obj)) (s : Shared) (σ : St) (H : Hp) (R : It → Hp → Prop), Inv X pins σ H s → wi σ H R →
    wpAny (model X.prog X.w) X.A (eval iter X.env) (fun v s1 => wpAny (model X.prog X.w) X.A (pyIter v) (PIE X pins σ tg R) X.xe s1) X.xe s

/-- the step ahead of the store is nothing for an iterator that keeps no tuple -/
theorem go_of {M : Model} {A : Around} {E : Value → Shared → Prop} {s : Shared} {tg : Expr} {it : Addr} {u : Value} {o : Obj} {n : String} {vs : Array Value} {Q : Unit → Shared → Prop} (ho : s.heap.get? it = some o) (hc : o.cls = .type n) (hd : o.data = .fields vs)
    (hn : ["enumerate", "zip", "dict_itemiterator", "dict_reverseitemiterator", "odict_iterator", "itertools.zip_longest", "itertools.pairwise"].contains n = false) (hQ : Q () s) : wpAny M A (letOwnedTupleGo tg (.ref it) u) Q E s := by
  unfold letOwnedTupleGo
  cases tg <;> first
    | exact wpAny_pure hQ
    | (cases u <;> first
        | exact wpAny_pure hQ
        | (refine wpAny_bind (wpAny_load ho ?_)
           rw [hc, hd]
           show wpAny M A (if (["enumerate", "zip", "dict_itemiterator", "dict_reverseitemiterator", "odict_iterator", "itertools.zip_longest", "itertools.pairwise"].contains n && vs[0]? == some (rawInt _)) = true then _ else _) Q E s
           rw [if_neg (by intro h; rw [hn, Bool.false_and] at h; cases h)]
           exact wpAny_pure hQ))

/-- the list at a, as it stands at each turn (a loop may append to it) -/
noncomputable def Itl (K : PySem.W.Frag) (a : Addr) : It :=
  ⟨fun i H => ∃ xs x, SqL K H a xs ∧ xs[i]? = some x, fun i H x H' => H' = H ∧ ∀ xs, SqL K H a xs → xs[i]? = some x, fun i H => ∃ xs, SqL K H a xs ∧ xs.length ≤ i⟩
noncomputable def Itt (K : PySem.W.Frag) (a : Addr) : It :=
  ⟨fun i H => ∃ xs x, SqT K H a xs ∧ xs[i]? = some x, fun i H x H' => H' = H ∧ ∀ xs, SqT K H a xs → xs[i]? = some x, fun i H => ∃ xs, SqT K H a xs ∧ xs.length ≤ i⟩
/-- lo, lo + 1, .. (n of them) -/
noncomputable def Itr (lo : Int) (n : Nat) : It := ⟨fun i _ => i < n, fun i H x H' => H' = H ∧ x = .int (lo + i), fun i _ => n ≤ i⟩
theorem turn_list {P : Program} {w : World} {K : PySem.W.Frag} {tg : Expr} (a it : Addr) : Turn P w K tg (Itl K a) [it] it (fun i h => h.IsListIter it a i) where
  mem := by simp
  obj := fun i h st b hb => by
    have e : b = it := by simpa using hb
    subst e
    obtain ⟨o, e, c, d⟩ := st
    exact ⟨o, e, fun v z => by rw [d] at z; cases z⟩
  keep := fun i h h' st k => st.at fun o e => k it (by simp) o e
  item := by
    intro X hP hw hK hc i pins s σ H E I hf st hg
    subst hP hw hK
    obtain ⟨xs, x, hq, hx⟩ := hg
    obtain ⟨its, rv, p, hz⟩ := I.list hq
    obtain ⟨u, hu, ru⟩ := rv.get hx
    obtain ⟨f0, f1, f2, f3, f4, f5⟩ := hf it (by simp)
    refine wpAny_pyNext_list_item st p.isList (x := u) (by simpa using hu) fun h' st' sb => ?_
    have I1 : Inv X pins σ H { s with heap := h' } := I.turned (t' := s.toks) (fun b o hb e => (sb.2 b hb).trans e) f0 f1 f3 f4 f5
    obtain ⟨o, e, c, d⟩ := id st'
    exact ⟨u, rfl, go_of (s := { s with heap := h' }) e c d (by decide) ⟨x, H, I1, ru, ⟨rfl, fun ys hy => by rw [I.list_inj hy hq]; exact hx⟩, st', fun b hb => (hf b hb).1⟩⟩
  done := by
    intro X hP hw hK hc i pins s σ H E I hf st hg
    subst hP hw hK
    obtain ⟨xs, hq, hx⟩ := hg
    obtain ⟨its, rv, p, hz⟩ := I.list hq
    obtain ⟨f0, f1, f2, f3, f4, f5⟩ := hf it (by simp)
    have hl := rv.length
    exact wpAny_pyNext_list_end (I.ok.hd hc) st p.isList (by simp; omega) fun h' eb => ⟨rfl, I.turned (t' := s.toks) (fun b o hb e => eb b o hb e) f0 f1 f3 f4 f5⟩
  self := fun _ _ _ _ _ st h => wpAny_pyIter_listiter st h
theorem turn_tuple {P : Program} {w : World} {K : PySem.W.Frag} {tg : Expr} (a it : Addr) : Turn P w K tg (Itt K a) [it] it (fun i h => h.IsTupleIter it a i) where
  mem := by simp
  obj := fun i h st b hb => by
    have e : b = it := by simpa using hb
    subst e
    obtain ⟨o, e, c, d⟩ := st
    exact ⟨o, e, fun v z => by rw [d] at z; cases z⟩
  keep := fun i h h' st k => st.at fun o e => k it (by simp) o e
  item := by
    intro X hP hw hK hc i pins s σ H E I hf st hg
    subst hP hw hK
    obtain ⟨xs, x, hq, hx⟩ := hg
    obtain ⟨its, rv, p, hz⟩ := I.tuple hq
    obtain ⟨u, hu, ru⟩ := rv.get hx
    obtain ⟨f0, f1, f2, f3, f4, f5⟩ := hf it (by simp)
    refine wpAny_pyNext_tuple_item st (show s.heap.IsTuple a its.toArray from p) (x := u) (by simpa using hu) fun h' st' sb => ?_
    have I1 : Inv X pins σ H { s with heap := h' } := I.turned (t' := s.toks) (fun b o hb e => (sb.2 b hb).trans e) f0 f1 f3 f4 f5
    obtain ⟨o, e, c, d⟩ := id st'
    exact ⟨u, rfl, go_of (s := { s with heap := h' }) e c d (by decide) ⟨x, H, I1, ru, ⟨rfl, fun ys hy => by rw [I.tuple_inj hy hq]; exact hx⟩, st', fun b hb => (hf b hb).1⟩⟩
  done := by
    intro X hP hw hK hc i pins s σ H E I hf st hg
    subst hP hw hK
    obtain ⟨xs, hq, hx⟩ := hg
    obtain ⟨its, rv, p, hz⟩ := I.tuple hq
    obtain ⟨f0, f1, f2, f3, f4, f5⟩ := hf it (by simp)
    have hl := rv.length
    exact wpAny_pyNext_tuple_end (I.ok.hd hc) st (show s.heap.IsTuple a its.toArray from p) (by simp; omega) fun h' eb => ⟨rfl, I.turned (t' := s.toks) (fun b o hb e => eb b o hb e) f0 f1 f3 f4 f5⟩
  self := fun _ _ _ _ _ st h => wpAny_pyIter_tupleiter st h
theorem turn_range {P : Program} {w : World} {K : PySem.W.Frag} {tg : Expr} (it : Addr) (lo : Int) (n : Nat) : Turn P w K tg (Itr lo n) [it] it (fun i h => IsRangeIter h it (lo + (i : Nat) * 1) ((n : Int) - (i : Nat)) 1) where
  mem := by simp
  obj := fun i h st b hb => by
    have e : b = it := by simpa using hb
    subst e
    exact ⟨_, st, fun v z => by
      have z' : Data.fields _ = Data.cell v := z
      cases z'⟩
  keep := fun i h h' st k => k it (by simp) _ st
  item := by
    intro X hP hw hK hc i pins s σ H E I hf st hg
    subst hP hw hK
    obtain ⟨f0, f1, f2, f3, f4, f5⟩ := hf it (by simp)
    have W := Walks.range (prog := X.prog) (w := X.w) (I.ok.hd hc) it lo 1 n
    refine W.item i s _ _ hg st fun v h' tk hv st' kk => ?_
    obtain ⟨t, rfl⟩ := hv
    have I1 : Inv X pins σ H { s with heap := h', toks := tk } := I.turned (fun b o hb e => kk b o (by simpa using hb) e) f0 f1 f3 f4 f5
    refine ⟨_, rfl, go_of (s := { s with heap := h', toks := tk }) (n := "range_iterator") st' rfl rfl (by decide) ⟨.int (lo + i), H, I1, ⟨t, ?_⟩, ⟨rfl, rfl⟩, st', fun b hb => (hf b hb).1⟩⟩
    rw [Int.mul_one]
  done := by
    intro X hP hw hK hc i pins s σ H E I hf st hg
    subst hP hw hK
    obtain ⟨f0, f1, f2, f3, f4, f5⟩ := hf it (by simp)
    exact wpAny_pyNext_range_end (I.ok.hd hc) st (by have : n ≤ i := hg; omega) fun h' eb => ⟨rfl, I.turned (t' := s.toks) (fun b o hb e => eb b o hb e) f0 f1 f3 f4 f5⟩
  self := fun _ _ _ _ _ st h => wpAny_pyIter_rangeiter st h
end L2

namespace L2
open PySem PySem.Spec PyProof.Rows
section
variable {X : Cx} {tg : Expr}
noncomputable def iList (K : PySem.W.Frag) (tl : TE) : TI := fun σ H R => tl σ H fun x H1 => ∃ a, x = .ref a ∧ (∃ xs, SqL K H1 a xs) ∧ R (Itl K a) H1
noncomputable def iTup (K : PySem.W.Frag) (tl : TE) : TI := fun σ H R => tl σ H fun x H1 => ∃ a, x = .ref a ∧ (∃ xs, SqT K H1 a xs) ∧ R (Itt K a) H1
theorem pi_list {l : Expr} {tl : TE} (hl : PE X l tl) : PI X tg l (iList X.K tl) := by
  intro pins s σ H R I h
  refine thn (hl pins s σ H _ I h) fun v s1 ⟨x, H1, I1, r1, q1⟩ => ?_
  obtain ⟨a, e, ⟨xs, hq⟩, q⟩ := q1
  subst e
  cases r1
  obtain ⟨its, rv, p, hz⟩ := I1.list hq
  refine wpAny_pyIter_list p.isList ?_
  refine ⟨s1.heap.objs.size, [s1.heap.objs.size], _, _, H1, rfl, I1.kept (t' := s1.toks) fun b o e => Heap.get?_push_of_some _ e, turn_list a _, ⟨_, Heap.get?_push_size _ rfl, rfl, rfl⟩, fun b hb => ?_, q⟩
  have e : b = s1.heap.objs.size := by simpa using hb
  subst e
  exact I1.fpOk (Nat.le_refl _) (I1.hok.fresh (Nat.le_refl _))
theorem pi_tup {l : Expr} {tl : TE} (hl : PE X l tl) : PI X tg l (iTup X.K tl) := by
  intro pins s σ H R I h
  refine thn (hl pins s σ H _ I h) fun v s1 ⟨x, H1, I1, r1, q1⟩ => ?_
  obtain ⟨a, e, ⟨xs, hq⟩, q⟩ := q1
  subst e
  cases r1
  obtain ⟨its, rv, p, hz⟩ := I1.tuple hq
  refine wpAny_pyIter_tuple (show s1.heap.IsTuple a its.toArray from p) ?_
  refine ⟨s1.heap.objs.size, [s1.heap.objs.size], _, _, H1, rfl, I1.kept (t' := s1.toks) fun b o e => Heap.get?_push_of_some _ e, turn_tuple a _, ⟨_, Heap.get?_push_size _ rfl, rfl, rfl⟩, fun b hb => ?_, q⟩
  have e : b = s1.heap.objs.size := by simpa using hb
  subst e
  exact I1.fpOk (Nat.le_refl _) (I1.hok.fresh (Nat.le_refl _))
/-- a range object just made, walked -/
theorem range_it {pins : List (Addr × Obj)} {σ : St} {H : Hp} {s : Shared} {R : It → Hp → Prop} {E : Value → Shared → Prop} {lo hi : Int} {t u v : Tok} {tk : Nat} (I : Inv X pins σ H s) (h1 : -(2 ^ 62) ≤ lo) (h2 : lo < 2 ^ 62) (h3 : -(2 ^ 62) ≤ hi) (h4 : hi < 2 ^ 62)
    (q : R (Itr lo (hi - lo).toNat) H) : wpAny (model X.prog X.w) X.A (pyIter (.ref s.heap.objs.size)) (PIE X pins σ tg R) E { s with heap := s.heap.push { cls := .type "range", data := .fields #[.int lo t, .int hi u, .int 1 v] }, toks := tk } := by
  refine wpAny_pyIter_range (IsRange.new ..) (small_one h1 h2 h3 h4) ?_
  have I1 : Inv X pins σ H { s with heap := s.heap.push { cls := .type "range", data := .fields #[.int lo t, .int hi u, .int 1 v] }, toks := tk } := I.kept fun b o e => Heap.get?_push_of_some _ e
  refine ⟨(s.heap.push { cls := .type "range", data := .fields #[.int lo t, .int hi u, .int 1 v] }).objs.size, [(s.heap.push { cls := .type "range", data := .fields #[.int lo t, .int hi u, .int 1 v] }).objs.size], _, _, H, rfl,
    I1.kept (t' := tk) fun b o e => Heap.get?_push_of_some _ e, turn_range _ lo (hi - lo).toNat, ?_, fun b hb => ?_, q⟩
  · have e1 : lo + ((0 : Nat) : Int) * 1 = lo := by simp
    have e2 : (((hi - lo).toNat : Nat) : Int) - ((0 : Nat) : Int) = Builtin.Range.rangeSize lo hi 1 := by rw [rangeSize_one]; split <;> omega
    show IsRangeIter _ _ (lo + ((0 : Nat) : Int) * 1) ((((hi - lo).toNat : Nat) : Int) - ((0 : Nat) : Int)) 1
    rw [e1, e2]
    exact Heap.get?_push_size _ rfl
  · have e : b = (s.heap.push { cls := .type "range", data := .fields #[.int lo t, .int hi u, .int 1 v] }).objs.size := by simpa using hb
    subst e
    exact I1.fpOk (Nat.le_refl _) (I1.hok.fresh (Nat.le_refl _))
noncomputable def iRng1 (ta : TA) : TI := fun σ H R => ta σ H fun vs H1 => ∃ j : Int, vs = [.int j] ∧ -(2 ^ 62) ≤ j ∧ j < 2 ^ 62 ∧ R (Itr 0 j.toNat) H1
noncomputable def iRng2 (ta : TA) : TI := fun σ H R => ta σ H fun vs H1 => ∃ i j : Int, vs = [.int i, .int j] ∧ (-(2 ^ 62) ≤ i ∧ i < 2 ^ 62 ∧ -(2 ^ 62) ≤ j ∧ j < 2 ^ 62) ∧ R (Itr i (j - i).toNat) H1
theorem pi_range1 {a : Expr} {ta : TA} {p pos : Pos} (hg : Gl X "range") (hm : X.mg "range" = none) (ha : PA X [a] ta) (hs : starEach [a] X.env = [(false, eval a X.env)] := by rfl) : PI X tg (.Call (.Name "range" p) [a] [] pos) (iRng1 ta) := by
  intro pins s σ H R I h
  refine Call_ (ld_blt I hg hm boot_range (PyProof.Rows.callWith_type1 (thn (ha pos pins s σ H _ I h) fun us s1 ⟨vs, H1, I1, r1, q1⟩ => ?_) hs rfl))
  obtain ⟨j, e, q1, q2, q⟩ := q1
  subst e
  cases r1 with
  | cons r rr =>
    cases rr
    obtain ⟨t, rfl⟩ := r
    exact call_range_1 (range_it I1 (by omega) (by omega) q1 q2 (by simpa using q))
theorem pi_range2 {a b : Expr} {ta : TA} {p pos : Pos} (hg : Gl X "range") (hm : X.mg "range" = none) (ha : PA X [a, b] ta) (hs : starEach [a, b] X.env = [(false, eval a X.env), (false, eval b X.env)] := by rfl) (hs2 : starEach [b] X.env = [(false, eval b X.env)] := by rfl) :
    PI X tg (.Call (.Name "range" p) [a, b] [] pos) (iRng2 ta) := by
  intro pins s σ H R I h
  refine Call_ (ld_blt I hg hm boot_range (PyProof.Rows.callWith_type1 (thn (ha pos pins s σ H _ I h) fun us s1 ⟨vs, H1, I1, r1, q1⟩ => ?_) (by rw [hs, hs2]) (by rw [hs2]; rfl)))
  obtain ⟨i, j, e, ⟨q1, q2, q3, q4⟩, q⟩ := q1
  subst e
  cases r1 with
  | cons r rr =>
    cases rr with
    | cons r' rr =>
      cases rr
      obtain ⟨t, rfl⟩ := r
      obtain ⟨t', rfl⟩ := r'
      exact call_range_2 (range_it I1 q1 q2 q3 q4 q)

/-! ### for -/
/-- W: the invariant by the turn and a measure; N: what the body is to reach -/
noncomputable def tFor (wi : TI) (g : TG) (tb : TS) : TS := fun D σ H => wi σ H fun J H1 => ∃ W : Nat → Nat → St → Hp → Prop, (∃ m, W 0 m σ H1) ∧ ∀ i m σ H, W i m σ H →
  (J.stop i H ∧ D.nx σ H) ∨ (J.go i H ∧ ∃ N : St → Hp → Prop, (∀ σ' H', N σ' H' → ∃ m', m' < m ∧ W (i + 1) m' σ' H') ∧ ∀ x H', J.yld i H x H' → g x σ H' fun σ2 H2 => tb { D with nx := N, ct := N, bk := D.nx } σ2 H2)
/-- the records at fp as they stand -/
noncomputable def pinsAt (fp : List Addr) (h : Heap) : List (Addr × Obj) := fp.filterMap fun b => (h.get? b).map fun o => (b, o)
theorem mem_pinsAt {fp : List Addr} {h : Heap} {b : Addr} {o : Obj} (hb : b ∈ fp) (e : h.get? b = some o) : (b, o) ∈ pinsAt fp h := List.mem_filterMap.mpr ⟨b, hb, by rw [e]; rfl⟩
theorem of_pinsAt {fp : List Addr} {h : Heap} {p : Addr × Obj} (hp : p ∈ pinsAt fp h) : p.1 ∈ fp ∧ h.get? p.1 = some p.2 := by
  obtain ⟨b, hb, e⟩ := List.mem_filterMap.mp hp
  cases q : h.get? b with
  | none => rw [q] at e; cases e
  | some o =>
    rw [q] at e
    have e' : (b, o) = p := Option.some.inj e
    subst e'
    exact ⟨hb, q⟩
theorem Inv.pinned {pins : List (Addr × Obj)} {σ : St} {H : Hp} {s : Shared} {fp : List Addr} (I : Inv X pins σ H s) (hf : ∀ b ∈ fp, FpOk X pins H b) (ho : ∀ b ∈ fp, ∃ o, s.heap.get? b = some o ∧ ∀ v, o.data ≠ .cell v) : Inv X (pins ++ pinsAt fp s.heap) σ H s :=
  I.pins_of fun p hp => (List.mem_append.mp hp).elim (fun z => I.pin p (List.mem_append_right _ z)) fun z => by
    obtain ⟨hb, e⟩ := of_pinsAt z
    obtain ⟨f0, f1, f2, _⟩ := hf p.1 hb
    obtain ⟨o, e', d⟩ := ho p.1 hb
    rw [e] at e'; cases e'
    exact ⟨e, f0, f1, f2, d⟩
theorem Inv.unpinned {pins pl : List (Addr × Obj)} {σ : St} {H : Hp} {s : Shared} (I : Inv X (pins ++ pl) σ H s) : Inv X pins σ H s := I.pins_of fun p hp => I.pin p (List.mem_append_right _ (List.mem_append_left _ hp))
theorem ps_for {iter : Expr} {body : List Stmt} {wi : TI} {g : TG} {tb : TS} {pos : Pos} (hp : PassesOwn (model X.prog X.w) X.A X.env X.xe) (hc : X.calm = true) (hi : PI X tg iter wi) (hg : PG X tg g) (hb : PSs X body tb)
    (hs : ∀ x, foldedSetIterable iter X.env x = pure x := by intro _; rfl) : PS X (.For tg iter body [] pos) (tFor wi g tb) := by
  intro pins s σ H D I h
  refine wpAny_For (thn (hi pins s σ H _ I h) fun v s1 h1 => thn h1 fun itv s2 h2 => ?_) hs
  obtain ⟨it, fp, tn, J, H2, e, I2, T, st2, f2, W, ⟨m0, w0⟩, turn⟩ := h2
  subst e
  -- what stays true of the iterator's objects through the loop
  have stat : ∀ {H' : Hp}, (∀ b ∈ fp, H' b = none) → ∀ b ∈ fp, FpOk X pins H' b := fun hn b hb => ⟨hn b hb, (f2 b hb).2⟩
  refine codeAny_forLoop_any (fun n s' => ∃ i σ' H', Inv X pins σ' H' s' ∧ tn i s'.heap ∧ (∀ b ∈ fp, H' b = none) ∧ W i n σ' H') ?_ m0 ⟨0, σ, H2, I2, st2, fun b hb => (f2 b hb).1, w0⟩
  rintro n s3 ⟨i, σ3, H3, I3, st3, fr3, w3⟩
  rcases turn i n σ3 H3 w3 with ⟨stop, qn⟩ | ⟨go, N, hN, step⟩
  · refine wpAny_passesOwn hp (thn (T.done X rfl rfl rfl hc i pins s3 σ3 H3 X.xe I3 (stat fr3) st3 stop) fun r s4 ⟨hr, I4⟩ => ?_)
    subst hr
    exact wpAny_execs_nil ⟨σ3, H3, I4, qn⟩
  · refine wpAny_passesOwn hp (thn (T.item X rfl rfl rfl hc i pins s3 σ3 H3 X.xe I3 (stat fr3) st3 go) fun r s4 ⟨u, hr, h4⟩ => ?_)
    subst hr
    refine wpAny_passesOwn hp (thn h4 fun _ s5 ⟨x, H5, I5, r5, y5, st5, fr5⟩ => ?_)
    have I5' := I5.pinned (stat fr5) (T.obj _ _ st5)
    refine wpAny_passesOwn hp (thn (hg _ s5 σ3 H5 x u _ I5' r5 (step x H5 y5)) fun _ s6 ⟨σ6, H6, I6, q6⟩ => ?_)
    refine wpAny_passesOwn hp (thn (hb _ s6 σ6 H6 _ I6 q6) fun f s7 q7 => ?_)
    have again : ∀ {σ7 : St} {H7 : Hp}, Inv X (pins ++ pinsAt fp s5.heap) σ7 H7 s7 → N σ7 H7 → ∃ m, m < n ∧ ∃ i σ' H', Inv X pins σ' H' s7 ∧ tn i s7.heap ∧ (∀ b ∈ fp, H' b = none) ∧ W i m σ' H' := fun {σ7 H7} I7 n7 => by
      obtain ⟨m', hm, w7⟩ := hN σ7 H7 n7
      refine ⟨m', hm, i + 1, σ7, H7, I7.unpinned, T.keep _ _ _ st5 fun b hb o e => (I7.pin (b, o) (List.mem_append_right _ (List.mem_append_right _ (mem_pinsAt hb e)))).1, fun b hb => ?_, w7⟩
      obtain ⟨o, e, d⟩ := T.obj _ _ st5 b hb
      exact (I7.pin (b, o) (List.mem_append_right _ (List.mem_append_right _ (mem_pinsAt hb e)))).2.1
    cases f with
    | next => obtain ⟨σ7, H7, I7, n7⟩ := q7; exact again I7 n7
    | cont => obtain ⟨σ7, H7, I7, n7⟩ := q7; exact again I7 n7
    | brk => obtain ⟨σ7, H7, I7, q7⟩ := q7; exact ⟨σ7, H7, I7.unpinned, q7⟩
    | ret v => obtain ⟨x7, σ7, H7, I7, r7, q7⟩ := q7; exact ⟨x7, σ7, H7, I7.unpinned, r7, q7⟩
end

/-! ### the forms one uses -/
end L2

namespace L2
open PySem PySem.Spec PyProof.Rows

noncomputable abbrev R2 := V → V → Hp → VK → Prop
/-- a two-place operation on values: f is binaryOp op, inplaceOp op or compareOp op -/
noncomputable def OpR (X : Cx) (f : Value → Value → Sem Value) (r : R2) : Prop :=
  ∀ (pins : List (Addr × Obj)) (s : Shared) (σ : St) (H : Hp) (x y : V) (v u : Value) (Q : VK), Inv X pins σ H s → RelV x v → RelV y u → r x y H Q →
    wpAny (model X.prog X.w) X.A (f v u) (EP X pins σ Q) X.xe s
/-- a one-place operation -/
noncomputable def UnR (X : Cx) (f : Value → Sem Value) (r : V → Hp → VK → Prop) : Prop :=
  ∀ (pins : List (Addr × Obj)) (s : Shared) (σ : St) (H : Hp) (x : V) (v : Value) (Q : VK), Inv X pins σ H s → RelV x v → r x H Q →
    wpAny (model X.prog X.w) X.A (f v) (EP X pins σ Q) X.xe s
/-- a call of a value that is known (a builtin, a type) with values -/
noncomputable def CallR (X : Cx) (f : Value) (r : List V → Hp → VK → Prop) : Prop :=
  ∀ (pins : List (Addr × Obj)) (s : Shared) (σ : St) (H : Hp) (xs : List V) (us : List Value) (Q : VK), Inv X pins σ H s → Vals xs us → r xs H Q →
    wpAny (model X.prog X.w) X.A (call f us) (EP X pins σ Q) X.xe s

noncomputable def tOp (r : R2) (ta tb : TE) : TE := fun σ H Q => ta σ H fun x H1 => tb σ H1 fun y H2 => r x y H2 Q
noncomputable def tUn (r : V → Hp → VK → Prop) (ta : TE) : TE := fun σ H Q => ta σ H fun x H1 => r x H1 Q
/-- ints in, under C, and a value out -/
noncomputable def rI (C : Int → Int → Prop) (g : Int → Int → V) : R2 := fun x y H Q => ∃ i j, x = .int i ∧ y = .int j ∧ C i j ∧ Q (g i j) H
noncomputable def rI0 (g : Int → Int → V) : R2 := fun x y H Q => ∃ i j, x = .int i ∧ y = .int j ∧ Q (g i j) H
noncomputable def rU (g : Int → V) : V → Hp → VK → Prop := fun x H Q => ∃ i, x = .int i ∧ Q (g i) H

section
variable {X : Cx} {a b c : Expr} {ta tb tc : TE} {pos : Pos}

theorem binT (ha : PE X a ta) (hb : PE X b tb) {pins : List (Addr × Obj)} {s : Shared} {σ : St} {H : Hp} {R : V → V → Hp → Prop} (I : Inv X pins σ H s)
    (h : ta σ H fun x H1 => tb σ H1 fun y H2 => R x y H2) {Q : Value → Shared → Prop} {f : Value → Value → Sem Value}
    (hf : ∀ v u s2 x y H2, Inv X pins σ H2 s2 → RelV x v → RelV y u → R x y H2 → wpAny (model X.prog X.w) X.A (f v u) Q X.xe s2) :
    wpAny (model X.prog X.w) X.A (eval a X.env) (fun v s₁ => wpAny (model X.prog X.w) X.A (eval b X.env) (fun u s₂ => wpAny (model X.prog X.w) X.A (f v u) Q X.xe s₂) X.xe s₁) X.xe s := by
  refine thn (ha pins s σ H _ I h) fun v s1 ⟨x, H1, I1, r1, q1⟩ => ?_
  refine thn (hb pins s1 σ H1 _ I1 q1) fun u s2 ⟨y, H2, I2, r2, q2⟩ => ?_
  exact hf v u s2 x y H2 I2 r1 r2 q2

theorem pe_op {op : Operator} {r : R2} (ho : OpR X (binaryOp op) r) (ha : PE X a ta) (hb : PE X b tb) : PE X (.BinOp a op b pos) (tOp r ta tb) := by
  intro pins s σ H Q I h
  exact wpAny_BinOp (binT ha hb I h fun v u s2 x y H2 I2 rx ry q => ho pins s2 σ H2 x y v u Q I2 rx ry q)
theorem pe_un {op : UnaryOp} {r : V → Hp → VK → Prop} (ho : UnR X (unaryOp op) r) (ha : PE X a ta) : PE X (.UnaryOp op a pos) (tUn r ta) := by
  intro pins s σ H Q I h
  exact UnaryOp_ (thn (ha pins s σ H _ I h) fun v s1 ⟨x, H1, I1, r1, q1⟩ => ho pins s1 σ H1 x v Q I1 r1 q1)

/-! ### ints -/
theorem opI {f : Value → Value → Sem Value} {C : Int → Int → Prop} {g : Int → Int → Int}
    (rule : ∀ (i j : Int) (t u : Tok) (s : Shared) (Q : Value → Shared → Prop) (E : Value → Shared → Prop), C i j → Q (.int (g i j) s.toks) { s with toks := s.toks + 1 } → wpAny (model X.prog X.w) X.A (f (.int i t) (.int j u)) Q E s) :
    OpR X f (rI C fun i j => .int (g i j)) := by
  intro pins s σ H x y v u Q I rx ry h
  obtain ⟨i, j, rfl, rfl, hc, q⟩ := h
  obtain ⟨t, rfl⟩ := rx
  obtain ⟨t', rfl⟩ := ry
  exact rule i j t t' s _ _ hc ⟨.int (g i j), H, I.tok _, ⟨_, rfl⟩, q⟩
theorem opI0 {f : Value → Value → Sem Value} {g : Int → Int → Int}
    (rule : ∀ (i j : Int) (t u : Tok) (s : Shared) (Q : Value → Shared → Prop) (E : Value → Shared → Prop), Q (.int (g i j) s.toks) { s with toks := s.toks + 1 } → wpAny (model X.prog X.w) X.A (f (.int i t) (.int j u)) Q E s) :
    OpR X f (rI0 fun i j => .int (g i j)) := by
  intro pins s σ H x y v u Q I rx ry h
  obtain ⟨i, j, rfl, rfl, q⟩ := h
  obtain ⟨t, rfl⟩ := rx
  obtain ⟨t', rfl⟩ := ry
  exact rule i j t t' s _ _ ⟨.int (g i j), H, I.tok _, ⟨_, rfl⟩, q⟩
theorem opB0 {f : Value → Value → Sem Value} {g : Int → Int → Bool}
    (rule : ∀ (i j : Int) (t u : Tok) (s : Shared) (Q : Value → Shared → Prop) (E : Value → Shared → Prop), Q (.bool (g i j)) s → wpAny (model X.prog X.w) X.A (f (.int i t) (.int j u)) Q E s) :
    OpR X f (rI0 fun i j => .bl (g i j)) := by
  intro pins s σ H x y v u Q I rx ry h
  obtain ⟨i, j, rfl, rfl, q⟩ := h
  obtain ⟨t, rfl⟩ := rx
  obtain ⟨t', rfl⟩ := ry
  exact rule i j t t' s _ _ ⟨.bl (g i j), H, I, rfl, q⟩

noncomputable def CPow (i j : Int) : Prop := 0 ≤ j ∧ j ≤ 1000000 ∧ i.natAbs < 2 ^ 64
noncomputable def CMul (i j : Int) : Prop := (-(2 ^ 64) < i ∧ i < 2 ^ 64) ∨ (-(2 ^ 64) < j ∧ j < 2 ^ 64)
theorem CMul.ok {i j : Int} (h : CMul i j) : IntMulOk i j := by
  rcases h with ⟨h1, h2⟩ | ⟨h1, h2⟩
  · exact .of_left (intBits_le_64 h1 h2)
  · exact .of_right (intBits_le_64 h1 h2)

theorem op_add : OpR X (binaryOp .Add) (rI0 fun i j => .int (i + j)) := opI0 fun _ _ _ _ _ _ _ q => add_int q
theorem op_sub : OpR X (binaryOp .Sub) (rI0 fun i j => .int (i - j)) := opI0 fun _ _ _ _ _ _ _ q => sub_int q
theorem op_mul : OpR X (binaryOp .Mult) (rI CMul fun i j => .int (i * j)) := opI fun _ _ _ _ _ _ _ hc q => mul_int q hc.ok
/-- % by a positive divisor of any size -/
theorem op_mod : OpR X (binaryOp .Mod) (rI (fun _ j => 0 < j) fun i j => .int (i % j)) := opI fun i j _ _ _ _ _ hc q => by
  have h1 : (0 : Int) < j := hc
  exact mod_int' (by omega) (by rw [Int.fmod_eq_emod_of_nonneg i (by omega)]; exact q)
theorem op_pow : OpR X (binaryOp .Pow) (rI CPow fun i j => .int (i ^ j.toNat)) := opI fun _ _ _ _ _ _ _ hc q => pow_int_small hc.1 hc.2.1 hc.2.2 q


theorem unI {f : Value → Sem Value} {g : Int → Int}
    (rule : ∀ (i : Int) (t : Tok) (s : Shared) (Q : Value → Shared → Prop) (E : Value → Shared → Prop), Q (.int (g i) s.toks) { s with toks := s.toks + 1 } → wpAny (model X.prog X.w) X.A (f (.int i t)) Q E s) :
    UnR X f (rU fun i => .int (g i)) := by
  intro pins s σ H x v Q I rx h
  obtain ⟨i, rfl, q⟩ := h
  obtain ⟨t, rfl⟩ := rx
  exact rule i t s _ _ ⟨.int (g i), H, I.tok _, ⟨_, rfl⟩, q⟩
theorem un_neg : UnR X (unaryOp .USub) (rU fun i => .int (-i)) := unI fun _ _ _ _ _ q => neg_int q

/-! ### bools among ints: n += (a < b) -/
end

/-! ### comparisons -/


section
variable {X : Cx} {a b c : Expr} {ta tb tc : TE} {pos : Pos}

theorem op_lt : OpR X (compareOp .Lt) (rI0 fun i j => .bl (decide (i < j))) := opB0 fun _ _ _ _ _ _ _ q => lt_int q
theorem op_le : OpR X (compareOp .LtE) (rI0 fun i j => .bl (decide (i ≤ j))) := opB0 fun _ _ _ _ _ _ _ q => le_int q
theorem op_gt : OpR X (compareOp .Gt) (rI0 fun i j => .bl (decide (j < i))) := opB0 fun _ _ _ _ _ _ _ q => gt_int q
theorem op_ge : OpR X (compareOp .GtE) (rI0 fun i j => .bl (decide (j ≤ i))) := opB0 fun _ _ _ _ _ _ _ q => ge_int q




theorem nomark (b : Expr) {op : CmpOp} (h : op ≠ .In := by decide) (h2 : op ≠ .NotIn := by decide) : behindInMarks op b = false := by
  have e1 : (op == CmpOp.In) = false := by cases op <;> first | rfl | exact absurd rfl h
  have e2 : (op == CmpOp.NotIn) = false := by cases op <;> first | rfl | exact absurd rfl h2
  cases b <;> simp [behindInMarks, e1, e2]
/-- a comparison as a value; hm: nomark b, or (for in, not in) by with_unfolding_all rfl -/
theorem pe_cmpR {op : CmpOp} {r : R2} (ho : OpR X (compareOp op) r) (ha : PE X a ta) (hb : PE X b tb) (hm : behindInMarks op b = false) : PE X (.Compare a [op] [b] pos) (tOp r ta tb) := by
  intro pins s σ H Q I h
  exact wpAny_Compare1 (binT ha hb I h fun v u s2 x y H2 I2 rx ry q => ho pins s2 σ H2 x y v u Q I2 rx ry q) hm
/-- a reading of a value as a test -/
noncomputable def tTest (t : TE) : TT := fun σ H Q => t σ H fun x H' => ∃ k, x = .bl k ∧ Q k H'
theorem pt_cmpR {op : CmpOp} {r : R2} (ho : OpR X (compareOp op) r) (ha : PE X a ta) (hb : PE X b tb) (hm : behindInMarks op b = false) : PT X (.Compare a [op] [b] pos) (tTest (tOp r ta tb)) := by
  intro pins s σ H Q I h
  refine wpAny_isTrue_Compare1 (thn (ha pins s σ H _ I h) fun v s1 ⟨x, H1, I1, r1, q1⟩ => thn (hb pins s1 σ H1 _ I1 q1) fun u s2 ⟨y, H2, I2, r2, q2⟩ =>
    thn (ho pins s2 σ H2 x y v u _ I2 r1 r2 q2) fun c s3 ⟨z, H3, I3, r3, k, e, q3⟩ => ?_) hm
  subst e
  cases r3
  exact wpAny_truthy_bool ⟨H3, I3, q3⟩
/-- a op1 b op2 c -/
noncomputable def tChain (r r' : R2) (ta tb tc : TE) : TE := fun σ H Q => ta σ H fun x H1 => tb σ H1 fun y H2 => r x y H2 fun z H3 => ∃ k, z = .bl k ∧
  (if k = true then tc σ H3 fun w' H4 => r' y w' H4 Q else Q (.bl false) H3)
theorem pe_chain {op op' : CmpOp} {r r' : R2} (ho : OpR X (compareOp op) r) (ho' : OpR X (compareOp op') r') (ha : PE X a ta) (hb : PE X b tb) (hc : PE X c tc)
    (hm : lastMarks [op, op'] [b, c] = false := by with_unfolding_all rfl) : PE X (.Compare a [op, op'] [b, c] pos) (tChain r r' ta tb tc) := by
  intro pins s σ H Q I h
  refine Compare_chain (thn (ha pins s σ H _ I h) fun v s1 ⟨x, H1, I1, r1, q1⟩ => chain_link (thn (hb pins s1 σ H1 _ I1 q1) fun u s2 ⟨y, H2, I2, r2, q2⟩ =>
    thn (ho pins s2 σ H2 x y v u _ I2 r1 r2 q2) fun d s3 ⟨z, H3, I3, r3, k, e, q3⟩ => ?_)) hm
  subst e
  cases r3
  refine wpAny_truthy_bool ?_
  cases k with
  | false => exact ite_ff ⟨.bl false, H3, I3, rfl, q3⟩
  | true => exact ite_tt (chain_last (thn (hc pins s3 σ H3 _ I3 q3) fun w' s4 ⟨z', H4, I4, r4, q4⟩ => ho' pins s4 σ H4 y z' u w' Q I4 r2 r4 q4))

/-! ### truth -/
theorem line63 : (sizeLine : Nat) < 2 ^ 63 := by rw [sizeLine_eq]; decide

/-! ### strs and bytes -/


/-! ### scalar builtins, by CallR -/
theorem vals1 {x : V} {us : List Value} (r : Vals [x] us) : ∃ u, us = [u] ∧ RelV x u := by
  cases r with
  | cons r1 r2 => cases r2; exact ⟨_, rfl, r1⟩
end
end L2

namespace L2
open PySem PySem.Spec PyProof.Rows

/-! ### an instance, its attributes a map -/
structure ObjM (h : Heap) (x dx C : Addr) (mA : Str → Option Value) : Prop where
  obj : h.get? x = some (PySem.W.instObj C dx)
  ns : h.Ns1 dx mA
  ne : dx ≠ x

theorem lookIn_ns {h : Heap} {dx : Addr} {mA : Str → Option Value} (n : h.Ns1 dx mA) : ∃ od, h.get? dx = some od ∧ ∀ name, PySem.W.lookIn name od = some (mA name) := by
  obtain ⟨o, es, ep, ho, hd, hk, _, hm⟩ := n
  refine ⟨o, ho, fun name => ?_⟩
  have e := hm name
  unfold nsFind findBy at e
  rw [← Array.find?_toList] at e
  unfold PySem.W.lookIn
  rw [hd]
  dsimp only
  split
  · rename_i y q
    rw [q] at e
    exact congrArg some e
  · rename_i q
    rw [q] at e
    have a : es.toList.any (·.refKey) = false := by
      rw [List.any_eq_false]
      intro y hy
      obtain ⟨z, t, hkey⟩ := hk y (Array.mem_toList_iff.mp hy)
      simp [DictEntry.refKey, hkey]
    have a' : ¬ es.toList.any (·.refKey) = true := by rw [a]; exact Bool.false_ne_true
    rw [if_neg a']
    exact congrArg some e

theorem ObjM.look {h : Heap} {x dx C : Addr} {mA : Str → Option Value} (I : ObjM h x dx C mA) : ∃ od, PySem.W.InstAt h x (PySem.W.instObj C dx) C (some od) ∧ ∀ name, PySem.W.lookIn name od = some (mA name) :=
  let ⟨od, ho, hl⟩ := lookIn_ns I.ns
  ⟨od, ⟨I.obj, rfl, rfl, ho⟩, hl⟩

section
variable {prog : Program} {w : World} {A : Around} {E : Value → Shared → Prop} {s : Shared} {K : PySem.W.Frag} {x dx C f : Addr} {mA : Str → Option Value} {name : Str} {v : Value}





end

/-! ### the attributes as a list of pairs -/

theorem RelO.none_of {o : Option Value} (r : RelO none o) : o = none := by
  cases o with
  | none => rfl
  | some u => exact (show False from r).elim

section
variable {P : Program} {w : World} {H H' : Hp} {h h' : Heap} {a C dx : Addr} {fs fs' : List (Str × V)}
theorem ins_get (hok : HOk P w H h) (e : H a = some (.ins C dx fs)) : ∃ mA, ObjM h a dx C mA ∧ (∀ f, RelO (fs.lookup f) (mA f)) ∧ PySem.Within mA (fs.map (·.1)) ∧ fs.length ≤ 1000 ∧ H dx = some (.own a) := by
  obtain ⟨d, z, ne, ob, mA, n, r, q⟩ := (show ObjOk P w H h a (.ins C dx fs) from hok a _ e)
  exact ⟨mA, ⟨ob, n, ne⟩, r, q, z, d⟩
end

/-! ### what of the text a class must have -/
structure Cls (K : PySem.W.Frag) (C : Addr) : Prop where
  pg : PySem.W.plainGet K C Str.empty = true
  hd : PySem.W.hasDictIn K C = true
  po : PySem.W.plainOver K C = true
  sa : PySem.W.findIn K (.ref C) "__setattr__" = some (some (.builtin "object.__setattr__"))
theorem Cls.get {K : PySem.W.Frag} {C : Addr} (c : Cls K C) (f : Str) : PySem.W.plainGet K C f = true := c.pg
/-- a constant of the class -/
structure Con (K : PySem.W.Frag) (C : Addr) (f : Str) (v : V) (u : Value) : Prop where
  at_ : PySem.W.findIn K (.ref C) f = some (some u)
  rel : RelV v u
  get : PySem.W.specialIn K u "__get__" = some none
  cp : PySem.W.copiedNames.contains f = false
/-- a method: a plain def of the class or of one above it -/
structure Meth (K : PySem.W.Frag) (C : Addr) (m : Str) (f : Addr) : Prop where
  at_ : PySem.W.findIn K (.ref C) m = some (some (.ref f))
  fn : PySem.W.isFn K (.ref f) = true
  kp : PySem.W.keepIn K (.ref f) = true

section
variable {X : Cx} {pins : List (Addr × Obj)} {σ : St} {H : Hp} {s : Shared} {a C dx : Addr} {fs : List (Str × V)} {f : Str} {v : V} {A : Around} {E : Value → Shared → Prop}






end

/-! ### readings and rules -/

section
variable {X : Cx} {o e value : Expr} {f : Str} {pos pos' tpos : Pos} {ta tv : TE}

end

/-! ### isinstance -/
section
variable {X : Cx} {pins : List (Addr × Obj)} {σ : St} {H : Hp} {s : Shared} {A : Around} {E : Value → Shared → Prop} {Q : Value → Shared → Prop} {c : Value} {b : Bool}
/-- the type of a value, as the fragment's deciders take it; for an instance its class -/
inductive TyOf (K : PySem.W.Frag) (H : Hp) : V → Value → Prop where
  | non : TyOf K H .non (.type "NoneType")
  | bl (x : Bool) : TyOf K H (.bl x) (.type "bool")
  | int (i : Int) : TyOf K H (.int i) (.type "int")
  | str (x : Str) : TyOf K H (.str x) (.type "str")
  | flt (x : UInt64) : TyOf K H (.flt x) (.type "float")
  | lst {a : Addr} {xs : List V} (e : H a = some (.lst xs)) : TyOf K H (.ref a) (.type "list")
  | frz {a : Addr} {o : Obj} {xs : List V} (e : H a = some (.frz o (.lst xs))) : TyOf K H (.ref a) (.type "list")
  | tup {a : Addr} {xs : List V} (e : H a = some (.tup xs)) : TyOf K H (.ref a) (.type "tuple")
  | dK {a : Addr} {kvs : List (Key × V)} (e : H a = some (.dK kvs)) : TyOf K H (.ref a) (.type "dict")
  | dT {a : Addr} {kvs : List (List Key × V)} (e : H a = some (.dT kvs)) : TyOf K H (.ref a) (.type "dict")
  | ins {a C dx : Addr} {fs : List (Str × V)} (e : H a = some (.ins C dx fs)) (cl : Cls K C) (ha : PySem.W.findIn K (.ref C) "__class__" = some (some (.builtin "object.__class__")))
      (hn : PySem.W.specialIn K (.builtin "object.__class__") "__get__" = some (some (.builtin "getset_descriptor.__get__"))) (htk : PySem.W.takesIn K (.builtin "object.__class__") = some true)
      (hm : PySem.W.mroIn K C (.type "object") = some true) : TyOf K H (.ref a) (.ref C)
/-- isinstance(x, c) for one class c, a built-in or an own one: kitOne's answer -/
theorem isinst_ok {x : V} {u t : Value} (I : Inv X pins σ H s) (rx : RelV x u) (ty : TyOf X.K H x t) (e : PySem.W.kitOne X.K t c = some b) (h : ∀ tk, Q (.bool b) { s with toks := tk }) :
    wpAny (model X.prog X.w) A (call (.builtin "isinstance") [u, c]) Q E s := by
  cases ty with
  | non => cases (show u = Value.none from rx); exact PySem.W.kia_one PySem.W.kitx_none I.kIn True.intro e (fun z => nomatch z) h
  | bl y => cases (show u = Value.bool y from rx); exact PySem.W.kia_one PySem.W.kitx_bool I.kIn True.intro e (fun z => nomatch z) h
  | int i => obtain ⟨t, q⟩ := (show ∃ t, u = Value.int i t from rx); cases q; exact PySem.W.kia_one PySem.W.kitx_int I.kIn True.intro e (fun z => nomatch z) h
  | str y => obtain ⟨t, q⟩ := (show ∃ t, u = Value.str y t from rx); cases q; exact PySem.W.kia_one PySem.W.kitx_str I.kIn True.intro e (fun z => nomatch z) h
  | flt y => obtain ⟨t, q⟩ := (show ∃ t, u = Value.float y t from rx); cases q; exact PySem.W.kia_one PySem.W.kitx_float I.kIn True.intro e (fun z => nomatch z) h
  | @lst a xs ea =>
    cases (show u = Value.ref a from rx)
    obtain ⟨_, _, n, _, h1⟩ := (show ObjOk X.prog X.w H s.heap a (.lst xs) from I.hok a _ ea)
    exact PySem.W.kia_one PySem.W.kitx_list I.kIn ⟨_, h1, rfl⟩ e (fun z => nomatch z) h
  | @frz a ob xs ea =>
    cases (show u = Value.ref a from rx)
    obtain ⟨_, _, _, n, _, h1⟩ := (show ObjOk X.prog X.w H s.heap a (.frz ob (.lst xs)) from I.hok a _ ea)
    exact PySem.W.kia_one PySem.W.kitx_list I.kIn ⟨_, h1, rfl⟩ e (fun z => nomatch z) h
  | @tup a xs ea =>
    cases (show u = Value.ref a from rx)
    obtain ⟨_, _, _, p⟩ := (show ObjOk X.prog X.w H s.heap a (.tup xs) from I.hok a _ ea)
    obtain ⟨o, h1, h2, _⟩ := p.1
    exact PySem.W.kia_one PySem.W.kitx_tuple I.kIn ⟨o, h1, h2⟩ e (fun z => nomatch z) h
  | @dK a kvs ea =>
    cases (show u = Value.ref a from rx)
    obtain ⟨_, _, vs, _, p⟩ := (show ObjOk X.prog X.w H s.heap a (.dK kvs) from I.hok a _ ea)
    obtain ⟨o, es, ep, h1, h2, _⟩ := p
    exact PySem.W.kia_one PySem.W.kitx_dict I.kIn ⟨o, h1, h2.1⟩ e (fun z => nomatch z) h
  | @dT a kvs ea =>
    cases (show u = Value.ref a from rx)
    obtain ⟨_, _, xs, _, o, es, ep, h1, h2, _⟩ := (show ObjOk X.prog X.w H s.heap a (.dT kvs) from I.hok a _ ea)
    exact PySem.W.kia_one PySem.W.kitx_dict I.kIn ⟨o, h1, h2.1⟩ e (fun z => nomatch z) h
  | @ins a C dx fs ea cl ha hn htk hm =>
    cases (show u = Value.ref a from rx)
    obtain ⟨mA, O, _⟩ := ins_get I.hok ea
    obtain ⟨od, J, _⟩ := O.look
    exact PySem.W.kia_one (PySem.W.kitx_own (cl.get _) cl.hd ha hn htk hm) I.kIn J e (fun z => nomatch z) h
end
end L2

namespace L2
open PySem PySem.Spec PyProof.Rows

/-! ### room -/
structure Room (k : Nat) (A : Around) : Prop where
  hd : A.handled = none
  dp : A.depth + 3 * k + 5 < recursionLimit
  un : A.units + 16 * k + 200 < cLine
theorem Room.mono {j k : Nat} {A : Around} (r : Room k A) (h : j ≤ k) : Room j A := ⟨r.hd, by have := r.dp; omega, by have := r.un; omega⟩
theorem Room.deeper {k : Nat} {A : Around} (r : Room (k + 1) A) (env : Env) : Room k (A.deeper env) :=
  ⟨r.hd, by have := r.dp; show A.depth + 1 + 3 * k + 5 < _; omega, by have := r.un; show A.units + 3 + 16 * k + 200 < _; omega⟩
theorem Room.in1 {k : Nat} {A : Around} (r : Room (k + 1) A) : Room k A.in1 :=
  ⟨r.hd, by have := r.dp; show A.depth + 3 * k + 5 < _; omega, by have := r.un; show A.units + 1 + 16 * k + 200 < _; omega⟩
theorem Room.depth {k : Nat} {A : Around} (r : Room k A) : A.depth < recursionLimit := by have := r.dp; omega
theorem Room.units {k : Nat} {A : Around} (r : Room k A) : A.units + 64 < cLine := by have := r.un; omega
theorem Room.units0 {k : Nat} {A : Around} (r : Room k A) : A.units < cLine := by have := r.un; omega

/-! ### argument lists and displays -/
noncomputable def tNil : TA := fun _ H Q => Q [] H
noncomputable def tCons (ta : TE) (tr : TA) : TA := fun σ H Q => ta σ H fun x H1 => tr σ H1 fun xs H2 => Q (x :: xs) H2
section
variable {X : Cx} {e : Expr} {es : List Expr} {te : TE} {t : TA} {pos : Pos}
theorem pa_nil : PA X [] tNil := fun _ _ _ _ H Q I h => Calls.spliced_nil ⟨[], H, I, .nil, h⟩
theorem pa_cons (ha : PE X e te) (hr : PA X es t) (hs : starEach (e :: es) X.env = (false, eval e X.env) :: starEach es X.env := by rfl) : PA X (e :: es) (tCons te t) := by
  intro pos pins s σ H Q I h
  rw [hs]
  show wpAny _ _ (spliced ((false, eval e X.env) :: backTo pos (starEach es X.env))) _ _ s
  refine Calls.spliced_cons (thn (ha pins s σ H _ I h) fun u s1 ⟨x, H1, I1, r1, q1⟩ => ?_)
  exact thn (hr pos pins s1 σ H1 _ I1 q1) fun us s2 ⟨xs, H2, I2, r2, q2⟩ => ⟨x :: xs, H2, I2, .cons r1 r2, q2⟩

/-- a tuple, a list of written items -/
noncomputable def tTup (t : TA) : TE := fun σ H Q => t σ H fun xs H1 => xs.length ≤ sizeLine ∧ ∀ p, H1 p = none → Q (.ref p) (upd H1 p (.tup xs))
noncomputable def tLst (t : TA) : TE := fun σ H Q => t σ H fun xs H1 => xs.length ≤ sizeLine ∧ ∀ p, H1 p = none → Q (.ref p) (upd H1 p (.lst xs))
theorem pe_tup {x1} (h : PA X es t) : PE X (.Tuple es x1 pos) (tTup t) := by
  intro pins s σ H Q I hq
  refine wpAny_Tuple_spliced (thn (h pos pins s σ H _ I hq) fun us s1 ⟨xs, H1, I1, r, z, q⟩ => ⟨by rw [← r.length]; exact z, ?_⟩)
  have hf : H1 s1.heap.objs.size = none := I1.hok.fresh (Nat.le_refl _)
  refine ⟨.ref s1.heap.objs.size, upd H1 s1.heap.objs.size (.tup xs), I1.laid (t' := s1.toks) (fun b u e => Heap.get?_push_of_some _ e) (Nat.le_refl _) ?_, rfl, q _ hf⟩
  exact ⟨z, us, r, ⟨_, Heap.get?_push_size _ rfl, rfl, _, rfl⟩, _, Heap.get?_push_size _ rfl, rfl⟩
theorem pe_lst (h : PA X es t) : PE X (.List es pos) (tLst t) := by
  intro pins s σ H Q I hq
  refine wpAny_List_spliced (thn (h pos pins s σ H _ I hq) fun us s1 ⟨xs, H1, I1, r, z, q⟩ => ⟨by rw [← r.length]; exact z, ?_⟩)
  have hf : H1 s1.heap.objs.size = none := I1.hok.fresh (Nat.le_refl _)
  refine ⟨.ref s1.heap.objs.size, upd H1 s1.heap.objs.size (.lst xs), I1.laid (t' := s1.toks) (fun b u e => Heap.get?_push_of_some _ e) (Nat.le_refl _) ?_, rfl, q _ hf⟩
  exact ⟨z, us, 0, r, Heap.get?_push_size _ rfl⟩
end

/-! ### what a def promises -/
/-- a def's promise: the bound arguments in the parameters' order, the heap, the wanted end, the wanted exception -/
noncomputable abbrev Sp := List V → Hp → VK → XK → Prop
/-- how an exception lies behind a call (file 08 gives it): the callers' frames, abstract heap and state ahead of the call, the wish, the exception, the state -/
noncomputable abbrev CXT := List Env → Hp → Shared → XK → Value → Shared → Prop

/-- the state at a call -/
structure Env0 (P : Program) (w : World) (K : PySem.W.Frag) (mg : Str → Option Value) (base : Heap) (A : Around) (outer : List Env) (s : Shared) (H : Hp) : Prop where
  frames : A.frames = some outer
  mod : Mod K mg base
  bs : ∀ b o, base.get? b = some o → s.heap.get? b = some o ∧ H b = none
  bsz : base.objs.size ≤ s.heap.objs.size
  funs : s.heap.FunFrames base outer
  frf : ∀ b ∈ frs outer, H b = none
  hok : HOk P w H s.heap
  bare : AllBare s.gens
/-- a call's end -/
noncomputable def CE (outer : List Env) (P : Program) (w : World) (H : Hp) (s : Shared) (Q : VK) (u : Value) (s' : Shared) : Prop :=
  ∃ v H', s'.os = s.os ∧ AllBare s'.gens ∧ Un (frs outer) [] H H' s.heap s'.heap ∧ HOk P w H' s'.heap ∧ RelV v u ∧ Q v H'
noncomputable def CR (CX : CXT) (outer : List Env) (P : Program) (w : World) (H : Hp) (s : Shared) (Q : VK) (E : XK) (r : Result) (s' : Shared) : Prop :=
  match r with
  | .ok (.ret u) => CE outer P w H s Q u s'
  | .ok _ => False
  | .error e => CX outer H s E e s'
structure FnOk (P : Program) (w : World) (K : PySem.W.Frag) (mg : Str → Option Value) (base : Heap) (CX : CXT) (k : Nat) (f : Addr) (fd : FuncData) (ps : List Str) (sp : Sp) : Prop where
  len : ∀ vs H Q E, sp vs H Q E → vs.length = ps.length
  run : ∀ (A : Around) (outer : List Env) (s : Shared) (H : Hp) (args : Args) (us : List Value) (vs : List V) (Q : VK) (E : XK), Room k A → Env0 P w K mg base A outer s H → BindsTo s fd args (ps.zip us) → Vals vs us → sp vs H Q E →
    codeAny (model P w) A (.call (.ref f) args) (CR CX outer P w H s Q E) s
theorem FnOk.mono {P : Program} {w : World} {K : PySem.W.Frag} {mg : Str → Option Value} {base : Heap} {CX : CXT} {j k : Nat} {f : Addr} {fd : FuncData} {ps : List Str} {sp : Sp} (F : FnOk P w K mg base CX j f fd ps sp) (h : j ≤ k) :
    FnOk P w K mg base CX k f fd ps sp := ⟨F.len, fun A outer s H args us vs Q E hr => F.run A outer s H args us vs Q E (hr.mono h)⟩
/-- a weaker promise -/
theorem FnOk.imp {P : Program} {w : World} {K : PySem.W.Frag} {mg : Str → Option Value} {base : Heap} {CX : CXT} {k : Nat} {f : Addr} {fd : FuncData} {ps : List Str} {sp sp' : Sp} (F : FnOk P w K mg base CX k f fd ps sp)
    (h : ∀ vs H Q E, sp' vs H Q E → sp vs H Q E) : FnOk P w K mg base CX k f fd ps sp' :=
  ⟨fun vs H Q E q => F.len vs H Q E (h _ _ _ _ q), fun A outer s H args us vs Q E hr he hb hv hs => F.run A outer s H args us vs Q E hr he hb hv (h _ _ _ _ hs)⟩

theorem Env0.in1 {P : Program} {w : World} {K : PySem.W.Frag} {mg : Str → Option Value} {base : Heap} {A : Around} {outer : List Env} {s : Shared} {H : Hp} (e : Env0 P w K mg base A outer s H) :
    Env0 P w K mg base A.in1 outer s H := ⟨e.frames, e.mod, e.bs, e.bsz, e.funs, e.frf, e.hok, e.bare⟩

section
variable {X : Cx} {pins : List (Addr × Obj)} {σ : St} {H : Hp} {s s' : Shared}
/-- from a body: what a callee wants -/
theorem Inv.env0 (I : Inv X pins σ H s) : Env0 X.prog X.w X.K X.mg X.base X.A X.stack s H :=
  ⟨I.ok.frames, I.ok.mod, I.bs, Nat.le_trans I.ok.bsz I.sz, I.stack, I.stkFree, I.hok, I.bare⟩
/-- behind a call -/
theorem Inv.after {Q : VK} {u : Value} (I : Inv X pins σ H s) (h : CE X.stack X.prog X.w H s Q u s') : EP X pins σ Q u s' := by
  obtain ⟨v, H', os, bare, un, hok, r, q⟩ := h
  obtain ⟨hh, g, d, t, os'⟩ := s'
  obtain rfl : os' = s.os := os
  exact ⟨v, H', I.call (h' := hh) (g' := g) (d' := d) (t' := t) (ch := []) un hok bare (fun b z => absurd z (by simp)), r, q⟩
end

/-! ### calls -/
/-- f(..): the written arguments, then the defaults dvs; E: what is wanted of an exception -/
noncomputable def tCall (sp : Sp) (dvs : List V) (E : XK) (t : TA) : TE := fun σ H Q => t σ H fun vs H1 => sp (vs ++ dvs) H1 Q E

/-- how the parameters are bound: us the positional arguments, kw the keywords' values by name, ds the defaults that fill up -/
noncomputable def Binds (K : PySem.W.Frag) (fd : FuncData) (ps : List Str) (ds : List Value) : Prop :=
  ∀ (s : Shared) (us : List Value), K.In s.heap → (us ++ ds).length = ps.length → BindsTo s fd ⟨us, []⟩ (ps.zip (us ++ ds))
/-- every parameter is given -/
theorem Binds.all {K : PySem.W.Frag} {fd : FuncData} {ps : List Str} (h : ∀ us : List Value, us.length = ps.length → bindArgs fd ⟨us, []⟩ = pure (ps.zip us)) : Binds K fd ps [] := fun s us _ hl => by
  rw [List.append_nil] at hl ⊢
  exact .of_eq (h us hl)

/-- an exception of a callee reaches what this body wants of exceptions -/
noncomputable def Passes (CX : CXT) (X : Cx) (E : XK) : Prop := ∀ (pins : List (Addr × Obj)) (σ : St) (H : Hp) (s : Shared) (e : Value) (s' : Shared), Inv X pins σ H s → CX X.stack H s E e s' → X.xe e s'

section
variable {X : Cx} {CX : CXT} {k : Nat} {f C : Addr} {fd : FuncData} {ps : List Str} {sp : Sp} {dvs : List V} {ds : List Value} {E : XK} {x m : Str} {p pos apos : Pos} {e o : Expr} {es : List Expr} {ta : TE} {t : TA}

/-- the callee runs -/
theorem run_fn {pins : List (Addr × Obj)} {σ : St} {H : Hp} {s : Shared} {Q : VK} {us : List Value} {vs : List V} (F : FnOk X.prog X.w X.K X.mg X.base CX k f fd ps sp) (hr : Room k X.A) (hb : Binds X.K fd ps ds) (hd : Vals dvs ds) (hx : Passes CX X E)
    (I : Inv X pins σ H s) (r : Vals vs us) (h : sp (vs ++ dvs) H Q E) : wpAny (model X.prog X.w) X.A (call (.ref f) us) (EP X pins σ Q) X.xe s := by
  have r2 : Vals (vs ++ dvs) (us ++ ds) := r.append hd
  have hl : (us ++ ds).length = ps.length := by rw [← r2.length]; exact F.len _ _ _ _ h
  refine wpAny_call (codeAny_mono (F.run X.A X.stack s H ⟨us, []⟩ (us ++ ds) (vs ++ dvs) Q E hr I.env0 (hb s us I.kIn hl) r2 h) fun r s' hq => ?_)
  cases r with
  | error e => exact hx pins σ H s e s' I hq
  | ok fl =>
    cases fl with
    | ret u => exact I.after hq
    | next => exact False.elim hq
    | brk => exact False.elim hq
    | cont => exact False.elim hq

theorem pe_call (F : FnOk X.prog X.w X.K X.mg X.base CX k f fd ps sp) (hr : Room k X.A) (hg : Gl X x) (hm : X.mg x = some (.ref f)) (hk : PySem.W.keepIn X.K (.ref f) = true) (hb : Binds X.K fd ps ds) (hd : Vals dvs ds) (hx : Passes CX X E)
    (ha : PA X (e :: es) t) (hdb : (x == ("__debug__" : Str)) = false := by decide) (he : starEach (e :: es) X.env = (false, eval e X.env) :: starEach es X.env := by rfl) (hpl : (backTo pos (starEach es X.env)).any (·.1) = false := by rfl) :
    PE X (.Call (.Name x p) (e :: es) [] pos) (tCall sp dvs E t) := by
  intro pins s σ H Q I h
  refine wpAny_Call_Name_kw (ld_glob I hg hm ?_ hdb)
  refine PySem.W.callWith_K (h₀ := X.base) I.ok.mod.kin hk (thn (ha pos pins s σ H _ I h) fun us s1 ⟨vs, H1, I1, r, q⟩ => ⟨I1.kIn, ?_⟩) he hpl
  exact run_fn F hr hb hd hx I1 r q


/-- what a class must have to be made -/
structure Mk (K : PySem.W.Frag) (C f : Addr) : Prop where
  makes : PySem.W.makesIn K C = true
  init : PySem.W.findIn K (.ref C) "__init__" = some (some (.ref f))
  fn : PySem.W.isFn K (.ref f) = true
  kp : PySem.W.keepIn K (.ref C) = true

end

/-! ### keywords -/
section
variable {X : Cx} {CX : CXT} {k : Nat} {f C : Addr} {fd : FuncData} {ps ks : List Str} {sp : Sp} {E : XK} {x m : Str} {p pos apos kpos : Pos} {e o : Expr} {es : List Expr} {kws : List Keyword} {te ta : TE} {t tk : TA} {nm : Option Str}

/-- how a call with keywords binds: g puts the positional values us and the keywords' values ws (names ks) in the parameters' order, defaults among them -/
structure KBinds (K : PySem.W.Frag) (fd : FuncData) (ps ks : List Str) (g : List Value → List Value → List Value) (gV : List V → List V → List V) : Prop where
  to : ∀ (s : Shared) (us ws : List Value), K.In s.heap → (g us ws).length = ps.length → BindsTo s fd ⟨us, ks.zip ws⟩ (ps.zip (g us ws))
  rel : ∀ {vs : List V} {us : List Value} {zs : List V} {ws : List Value}, Vals vs us → Vals zs ws → Vals (gV vs zs) (g us ws)
variable {g : List Value → List Value → List Value} {gV : List V → List V → List V}
end

/-! ### a def's body keeps its promise -/
/-- names: the parameters first -/
structure FnScope (N P : List Str) (sc : Scope) : Prop where
  kind : sc.kind = .function
  co : sc.isCoroutine = false
  gen : sc.isGenerator = false
  nd : N.Nodup
  pre : N.take P.length = P
  par : ∀ x ∈ P, sc.names.lookup x = some .local ∨ sc.names.lookup x = some .cell
  nofree : ∀ y ∈ sc.names, y.2 ≠ .free

theorem bindL_out {kindOf : Str → Option NameKind} {x : Str} : ∀ {binds : List (Str × Value)} {m : Str → Option Value}, (∀ v, (x, v) ∉ binds) → bindL kindOf binds m x = m x
  | [], _, _ => rfl
  | (n, v) :: r, m, h => by
    unfold bindL
    rw [bindL_out fun w hw => h w (List.mem_cons_of_mem _ hw)]
    split
    · have : x ≠ n := by rintro rfl; exact h v List.mem_cons_self
      simp [this]
    · rfl
theorem bindC_out {kindOf : Str → Option NameKind} {x : Str} : ∀ {binds : List (Str × Value)} {m : Str → Option Value}, (∀ v, (x, v) ∉ binds) → bindC kindOf binds m x = m x
  | [], _, _ => rfl
  | (n, v) :: r, m, h => by
    unfold bindC
    rw [bindC_out fun w hw => h w (List.mem_cons_of_mem _ hw)]
    split
    · rfl
    · have : x ≠ n := by rintro rfl; exact h v List.mem_cons_self
      simp [this]
theorem bindL_get {kindOf : Str → Option NameKind} {x : Str} {v : Value} : ∀ {P : List Str} {vs : List Value} {i : Nat} {m : Str → Option Value}, P.Nodup → P[i]? = some x → vs[i]? = some v → kindOf x = some .local →
    bindL kindOf (P.zip vs) m x = some v
  | [], _, _, _, _, h, _, _ => by simp at h
  | _ :: _, [], _, _, _, _, h, _ => by simp at h
  | p :: P, w :: vs, 0, m, nd, h1, h2, hk => by
    simp at h1 h2; subst h1; subst h2
    show bindL kindOf ((p, w) :: P.zip vs) m p = _
    unfold bindL
    rw [bindL_out fun v hv => (List.nodup_cons.mp nd).1 (List.of_mem_zip hv).1, if_pos hk]
    simp
  | p :: P, w :: vs, i + 1, m, nd, h1, h2, hk => by
    show bindL kindOf ((p, w) :: P.zip vs) m x = _
    unfold bindL
    exact bindL_get (i := i) (List.nodup_cons.mp nd).2 (by simpa using h1) (by simpa using h2) hk
theorem bindC_get {kindOf : Str → Option NameKind} {x : Str} {v : Value} : ∀ {P : List Str} {vs : List Value} {i : Nat} {m : Str → Option Value}, P.Nodup → P[i]? = some x → vs[i]? = some v → kindOf x ≠ some .local →
    bindC kindOf (P.zip vs) m x = some v
  | [], _, _, _, _, h, _, _ => by simp at h
  | _ :: _, [], _, _, _, _, h, _ => by simp at h
  | p :: P, w :: vs, 0, m, nd, h1, h2, hk => by
    simp at h1 h2; subst h1; subst h2
    show bindC kindOf ((p, w) :: P.zip vs) m p = _
    unfold bindC
    rw [bindC_out fun v hv => (List.nodup_cons.mp nd).1 (List.of_mem_zip hv).1, if_neg hk]
    simp
  | p :: P, w :: vs, i + 1, m, nd, h1, h2, hk => by
    show bindC kindOf ((p, w) :: P.zip vs) m x = _
    unfold bindC
    exact bindC_get (i := i) (List.nodup_cons.mp nd).2 (by simpa using h1) (by simpa using h2) hk

/-- the names' values at the entry -/
noncomputable def start (N : List Str) (vs : List V) : St := vs.map some ++ List.replicate (N.length - vs.length) none

/-- the context of a def's body, at its entry; an exception leaves the frame, then lies as CX says -/
noncomputable def cxOf (CX : CXT) (P : Program) (w : World) (K : PySem.W.Frag) (mg : Str → Option Value) (base : Heap) (N : List Str) (qual : Str) (scope : Scope) (f : Addr) (cd : Value) (A : Around) (outer : List Env) (s : Shared) (H : Hp) (E : XK) : Cx where
  prog := P
  w := w
  K := K
  mg := mg
  base := base
  A := A.deeper (envOfC qual scope s.heap.objs.size f cd)
  N := N
  s₀ := s
  H₀ := H
  env := envOfC qual scope s.heap.objs.size f cd
  outer := outer
  stack := envOfC qual scope s.heap.objs.size f cd :: outer
  ex := []
  calm := true
  fn := fun _ => true
  pn := []
  xe := fun e s' => wpAny (model P w) (A.deeper (envOfC qual scope s.heap.objs.size f cd)) (leaving (envOfC qual scope s.heap.objs.size f cd) e) (fun _ s'' => CX outer H s E e s'') (fun e' s'' => CX outer H s E e' s'') s'

theorem cell_has {sc : Scope} {n : Nat} {x : Str} (h : sc.names.lookup x = some .cell) : ∃ c, (cellsFrom n sc.names []).lookup x = some c := by
  have q := PySem.W.cellsFrom_some sc.names n [] (.inl h)
  exact Option.isSome_iff_exists.mp q

theorem inv_start {CX : CXT} {P : Program} {w : World} {K : PySem.W.Frag} {mg : Str → Option Value} {base : Heap} {N ps : List Str} {qual : Str} {scope : Scope} {f : Addr} {cd : Value} {A : Around} {outer : List Env} {s s1 : Shared} {H : Hp} {E : XK} {us : List Value} {vs : List V}
    (S : FnScope N ps scope) (hd : A.handled = none) (e0 : Env0 P w K mg base A outer s H) (hl : vs.length = ps.length) (r : Vals vs us)
    (x : InCallC s s.heap.objs.size (bindL (envOfC qual scope s.heap.objs.size f cd).kindOf (ps.zip us) fun _ => none) (cellsFrom (s.heap.objs.size + 1) scope.names []) (bindC (envOfC qual scope s.heap.objs.size f cd).kindOf (ps.zip us) fun _ => none) s1) :
    Inv (cxOf CX P w K mg base N qual scope f cd A outer s H E) [] (start N vs) H s1 := by
  have hpl : ps.length ≤ N.length := by have := congrArg List.length S.pre; rw [List.length_take] at this; omega
  obtain ⟨h1, tk, rfl, hk⟩ := x.done
  have noA : ∀ b : Addr, b ∉ (cxOf CX P w K mg base N qual scope f cd A outer s H E).ex := fun b z => absurd (show b ∈ ([] : List Addr) from z) (by simp)
  refine ⟨⟨e0.mod, S.kind, rfl, rfl, Nat.le_refl _, fun y z c h1 h2 => ?_, fun y hy => ?_, fun y c _ h => ?_, fun _ => hd, Around.frames_deeper e0.frames, .inr ⟨rfl, rfl⟩, fun b z => absurd z (noA b), e0.bs, e0.bsz, fun b _ _ => noA b, fun b z => absurd z (noA b), e0.funs, e0.frf⟩,
    rfl, e0.bare, Un.kept hk, ⟨_, x.toInCall.ns, fun i y v h1 h2 h3 => ?_⟩, fun y c h => ⟨_, x.cell y c h⟩, e0.hok.fresh (Nat.le_refl _), fun y c h => ?_, fun p hp => absurd (show p ∈ ([] : List (Addr × Obj)) from hp) (by simp), e0.hok.kept hk, ?_⟩
  · exact name_of_addr x.apart (PySem.mem_of_lookup h1) (PySem.mem_of_lookup h2)
  · have hy : scope.names.lookup y = some .cell ∨ scope.names.lookup y = some .free := hy
    rcases hy with hy | hy
    · exact cell_has hy
    · exact absurd rfl (S.nofree _ (PySem.mem_of_lookup hy))
  · exact Nat.le_of_lt (x.above y c (PySem.mem_of_lookup h))
  · have hi : i < vs.length := by
      unfold start at h2
      by_cases hi : i < vs.length
      · exact hi
      · rw [List.getElem?_append_right (by simpa using hi)] at h2
        rw [List.getElem?_replicate] at h2
        split at h2 <;> cases h2
    have ha : vs[i]? = some v := by
      unfold start at h2
      rw [List.getElem?_append_left (by simpa using hi), List.getElem?_map] at h2
      cases e : vs[i]? with
      | none => rw [e] at h2; cases h2
      | some a => rw [e] at h2; cases h2; rfl
    obtain ⟨u, hu, rv⟩ := r.get ha
    have hp : ps[i]? = some y := by
      rw [← S.pre, List.getElem?_take_of_lt (by omega)]; exact h1
    have ndP : ps.Nodup := by rw [← S.pre]; exact S.nd.sublist (List.take_sublist _ _)
    refine ⟨u, rv, ?_⟩
    rcases S.par y (List.mem_of_getElem? hp) with k | k
    · exact .inl ⟨k, bindL_get ndP hp hu k⟩
    · obtain ⟨c, e⟩ := cell_has (n := s.heap.objs.size + 1) k
      refine .inr ⟨.inl k, c, e, ?_⟩
      have q := x.cell y c e
      rw [bindC_get ndP hp hu (by show scope.names.lookup y ≠ _; rw [k]; decide)] at q
      exact q
  · exact e0.hok.fresh (Nat.le_of_lt (x.above y c (PySem.mem_of_lookup h)))
  · unfold start
    show _ = N.length
    rw [List.length_append, List.length_map, List.length_replicate]
    omega

/-- THE RULE: a def (or a method) of the text, by its body. The body's reading t is chosen for each entry; it is run at the parameters' values -/
theorem fn_of {CX : CXT} {P : Program} {w : World} {K : PySem.W.Frag} {mg : Str → Option Value} {base : Heap} {k : Nat} {f : Addr} {name qual : Str} {params : Arguments} {body : List Stmt} {scope : Scope} {dV kV doc pm cdv ct oc : Value} {an od : Option Addr}
    {osl : Array (Option Value)} {N ps : List Str} {sp : Sp} (lk : K.lookup f = some ⟨oc, od, .func (PySem.W.fnOf name qual params body scope dV kV doc pm an cdv ct), osl⟩) (hcd : PySem.W.codeIn K cdv qual = true) (S : FnScope N ps scope)
    (len : ∀ vs H Q E, sp vs H Q E → vs.length = ps.length)
    (hbody : ∀ (A : Around) (outer : List Env) (s : Shared) (H : Hp) (vs : List V) (Q : VK) (E : XK), Room k (A.deeper (envOfC qual scope s.heap.objs.size f cdv)) → sp vs H Q E →
      ∃ t, PSs (cxOf CX P w K mg base N qual scope f cdv A outer s H E) body t ∧ t { nx := fun _ H' => Q .non H', rt := Q } (start N vs) H) :
    FnOk P w K mg base CX (k + 1) f (PySem.W.fnOf name qual params body scope dV kV doc pm an cdv ct) ps sp := by
  refine ⟨len, fun A outer s H args us vs Q E hr e0 hb r hsp => ?_⟩
  have hl := len _ _ _ _ hsp
  have KX : K.In s.heap := e0.mod.kin.keeps fun b o e => (e0.bs b o e).1
  have lim : s.heap.NoLimit := e0.mod.nolimit.keeps fun b o e => (e0.bs b o e).1
  have hkind : ∀ y ∈ ps.zip us, scope.names.lookup y.1 = some .local ∨ (scope.names.lookup y.1 = some .cell ∧ ((cellsFrom (s.heap.objs.size + 1) scope.names []).lookup y.1).isSome = true) := fun ⟨n, v⟩ hy => by
    rcases S.par n (List.of_mem_zip hy).1 with q | q
    · exact .inl q
    · exact .inr ⟨q, PySem.W.cellsFrom_some _ _ _ (.inl q)⟩
  refine codeAny_call_function hr.depth (KX _ _ lk) rfl S.co S.gen rfl (PySem.W.codeRec_of KX hcd) (hb _ _ _ _ ?_)
  refine wpAny_newFunctionEnv_cells S.kind hkind fun env he s1 x => ?_
  subst he
  refine ⟨lim.keeps x.toInCall.keep, codeAny_func ?_⟩
  obtain ⟨t, ht, hq⟩ := hbody A outer s H vs Q E (hr.deeper _) hsp
  have I : Inv (cxOf CX P w K mg base N qual scope f cdv A outer s H E) [] (start N vs) H s1 := inv_start S hr.hd e0 hl r x
  refine wpAny_mono (ht [] s1 (start N vs) H _ I hq) (fun fl s' hs => ?_) fun e s' hs => hs
  have fin : ∀ {σ' : St} {H' : Hp} {v : V} {u : Value}, Inv (cxOf CX P w K mg base N qual scope f cdv A outer s H E) [] σ' H' s' → RelV v u → Q v H' → CE outer P w H s Q u s' :=
    fun {σ' H' v u} J rv q => ⟨v, H', J.os, J.bare, J.base, J.hok, rv, q⟩
  cases fl with
  | ret u =>
    obtain ⟨v, σ', H', J, rv, q⟩ := hs
    exact fin J rv q
  | next =>
    obtain ⟨σ', H', J, q⟩ := hs
    exact fin (v := V.non) (u := Value.none) J rfl q
  | brk =>
    obtain ⟨_, _, _, q⟩ := hs
    exact False.elim q
  | cont =>
    obtain ⟨_, _, _, q⟩ := hs
    exact False.elim q
end L2

namespace L2
open PySem PySem.Spec PyProof.Rows
section
variable {X : Cx} {x : Str} {p pos : Pos} {e : Expr} {es : List Expr} {t : TA} {id T : String} {r : List V → Hp → VK → Prop}

noncomputable def tCB (r : List V → Hp → VK → Prop) (t : TA) : TE := fun σ H Q => t σ H fun vs H1 => r vs H1 Q
/-- f(e, ..), f a built-in function -/
theorem pe_callB (hc : CallR X (.builtin id) r) (hg : Gl X x) (hm : X.mg x = none) (hv : bootBuiltins x = some (.builtin id)) (ha : PA X (e :: es) t) (hn : x ≠ "__name__" := by decide) (hdb : (x == ("__debug__" : Str)) = false := by decide)
    (he : starEach (e :: es) X.env = (false, eval e X.env) :: starEach es X.env := by rfl) (hpl : (backTo pos (starEach es X.env)).any (·.1) = false := by rfl) : PE X (.Call (.Name x p) (e :: es) [] pos) (tCB r t) := by
  intro pins s σ H Q I h
  refine wpAny_Call_Name_kw (ld_blt I hg hm hv ?_ hn hdb)
  exact PyProof.Rows.callWith_builtin1 (thn (ha pos pins s σ H _ I h) fun us s1 ⟨vs, H1, I1, r1, q1⟩ => hc pins s1 σ H1 vs us Q I1 r1 q1) he hpl
/-- T(e, ..), T a built-in type -/
theorem pe_callTy (hc : CallR X (.type T) r) (hg : Gl X x) (hm : X.mg x = none) (hv : bootBuiltins x = some (.type T)) (ha : PA X (e :: es) t) (hn : x ≠ "__name__" := by decide) (hdb : (x == ("__debug__" : Str)) = false := by decide)
    (he : starEach (e :: es) X.env = (false, eval e X.env) :: starEach es X.env := by rfl) (hpl : (backTo pos (starEach es X.env)).any (·.1) = false := by rfl) : PE X (.Call (.Name x p) (e :: es) [] pos) (tCB r t) := by
  intro pins s σ H Q I h
  refine wpAny_Call_Name_kw (ld_blt I hg hm hv ?_ hn hdb)
  exact PyProof.Rows.callWith_type1 (thn (ha pos pins s σ H _ I h) fun us s1 ⟨vs, H1, I1, r1, q1⟩ => hc pins s1 σ H1 vs us Q I1 r1 q1) he hpl
end
end L2

namespace HT
open PySem PyProof.Rows

/-- t < u of tuples of ints -/
noncomputable def lexLt : List Int → List Int → Bool
  | [], [] => false
  | [], _ :: _ => true
  | _ :: _, [] => false
  | x :: xs, y :: ys => if x = y then lexLt xs ys else decide (x < y)
theorem lexLt_cons (x y : Int) (xs ys : List Int) : lexLt (x :: xs) (y :: ys) = if x = y then lexLt xs ys else decide (x < y) := rfl
theorem lexLt_nil_nil : lexLt [] [] = false := rfl
theorem lexLt_nil_cons (y : Int) (ys : List Int) : lexLt [] (y :: ys) = true := rfl
theorem lexLt_cons_nil (x : Int) (xs : List Int) : lexLt (x :: xs) [] = false := rfl

theorem eqAt_int (A : Around) (s : Shared) (a : Int) (t : Tok) (c : Int) (u : Tok) : ∃ e, SeqAt.EqAt A s (.int a t) (.int c u) e ∧ (e = true ↔ a = c) :=
  ⟨(a == c), SeqAt.EqAt.int_int a t c u, by simp⟩
theorem rcLt_int (A : Around) (s : Shared) (a : Int) (t : Tok) (c : Int) (u : Tok) (prog : Program) (w : World) (E : Value → Shared → Prop) (Q : Value → Shared → Prop) (h : Q (.bool (decide (a < c))) s) :
    wpAny (model prog w) A (richCompare .Lt (.int a t) (.int c u)) Q E s :=
  (PyProof.Rows.lt_int h : wpAny (model prog w) A (compareOp .Lt (.int a t) (.int c u)) Q E s)

section
open PySem.SeqAt
open PySem.AutoSeq1 (wpAny_loadPart')
open PySem.MeetsSeq PySem.MeetsSeq2 PySem.MeetsSeq3

theorem tuple_lt_ints (l b : Addr) (items items2 : Array Value) (n n2 : Nat) (dd dd2 : Option Addr) (sl sl2 : Array (Option Value)) (ns ms : List Int) (hi : IntsAre items.toList ns) (hj : IntsAre items2.toList ms) :
    Meets (Builtin.«tuple.__lt__» ⟨[.ref l, .ref b], []⟩)
      (fun _ R s => s.heap.get? l = some { cls := .type "tuple", dict := dd, data := .seq items n, slots := sl } ∧ s.heap.get? b = some { cls := .type "tuple", dict := dd2, data := .seq items2 n2, slots := sl2 } ∧
        R (.ok (.ret (.bool (lexLt ns ms)))) s) :=
  .of_wp fun prog w A R s h => by
    obtain ⟨hp, g, d, tk, os⟩ := s; obtain ⟨hl, hb, h⟩ := h
    have f2 := AutoSeq1.sub_tuple_tuple
    have z1 : items.size = ns.length := by rw [← hi.length]; simp
    have z2 : items2.size = ms.length := by rw [← hj.length]; simp
    wp_walk using wpAny_loadPart' hl, wpAny_loadPart' hb, wpAny_forIn_list _ (fun rest b s' => b.1 = none ∧ s' = ⟨hp, g, d, tk, os⟩ ∧ ∃ (vs ws : List Value) (ns' ms' : List Int), rest = vs.zip ws ∧
      IntsAre vs ns' ∧ IntsAre ws ms' ∧ ns'.length + items2.size = ms'.length + items.size ∧ R (.ok (.ret (.bool (lexLt ns' ms')))) ⟨hp, g, d, tk, os⟩) _
    case turn =>
      rintro ⟨y, x⟩ rest b s' ⟨hb', rfl, vs, ws, ns', ms', hz, hvi, hwi, hlen, hR⟩
      cases hvi with
      | nil => rw [List.zip_nil_left] at hz; cases hz
      | cons a t hvi' =>
        cases hwi with
        | nil => rw [List.zip_nil_right] at hz; cases hz
        | cons c u hwi' =>
          rw [List.zip_cons_cons] at hz
          injection hz with hyx hrest
          injection hyx with hy hx
          subst hy hx
          rw [lexLt_cons] at hR
          simp only [List.length_cons] at hlen
          obtain ⟨e, he, hiff⟩ := eqAt_int A.in1 ⟨hp, g, d, tk, os⟩ a t c u
          refine wpAny_bind (he prog w _ _ ?_)
          cases e with
          | true =>
            rw [if_pos (hiff.mp rfl)] at hR
            wp_walk
            exact ⟨rfl, rfl, _, _, _, _, hrest, hvi', hwi', by omega, hR⟩
          | false =>
            rw [if_neg (fun q => absurd (hiff.mpr q) Bool.false_ne_true)] at hR
            have hri := rcLt_int A.in1 ⟨hp, g, d, tk, os⟩ a t c u prog w
            wp_walk using hri
            exact ⟨_, rfl, by simpa using hR⟩
    case fin =>
      rintro ⟨b1, b2⟩ s' ⟨hb', rfl, vs, ws, ns', ms', hz, hvi, hwi, hlen, hR⟩
      simp only at hb'
      subst hb'
      have hv : lexLt ns' ms' = decide (items.size < items2.size) := by
        cases hvi with
        | nil =>
          cases hwi with
          | nil =>
            simp only [List.length_nil] at hlen
            rw [lexLt_nil_nil]
            exact (decide_eq_false (by omega)).symm
          | cons c u hw =>
            simp only [List.length_nil, List.length_cons] at hlen
            rw [lexLt_nil_cons]
            exact (decide_eq_true (by omega)).symm
        | cons a t hv =>
          cases hwi with
          | nil =>
            simp only [List.length_nil, List.length_cons] at hlen
            rw [lexLt_cons_nil]
            exact (decide_eq_false (by omega)).symm
          | cons c u hw =>
            rw [List.zip_cons_cons] at hz
            cases hz
      rw [hv] at hR
      wp_walk
      exact ⟨_, rfl, by simpa [Builtin.Tuple.tupleCompareSizes] using hR⟩
    case h =>
      exact ⟨rfl, rfl, items.toList, items2.toList, ns, ms, rfl, hi, hj, by omega, h⟩
end

section
variable {prog : Program} {w : World} {A : Around} {E : Value → Shared → Prop} {s : Shared}

theorem lt_tupInts {l b : Addr} {items items2 : Array Value} {ns ms : List Int} {Q : Value → Shared → Prop} (hl : IsTup s.heap l items) (hb : IsTup s.heap b items2) (hi : IntsAre items.toList ns) (hj : IntsAre items2.toList ms)
    (hu : A.units < cLine) (h : Q (.bool (lexLt ns ms)) s) : wpAny (model prog w) A (compareOp .Lt (.ref l) (.ref b)) Q E s := by
  obtain ⟨⟨cls, dd, data, sl⟩, ho, hc, n, hd⟩ := id hl
  obtain ⟨⟨cls2, dd2, data2, sl2⟩, ho2, hc2, n2, hd2⟩ := id hb
  simp only at hc hd hc2 hd2
  subst hc hd hc2 hd2
  exact richCompare_meets_room (op := .Lt) ⟨_, ho, rfl⟩ ⟨_, ho2, rfl⟩ PySem.F.slot_tuple_lt PySem.F.entry_tuple_lt (PySem.F.args_tuple_lt_2 _ _) (tuple_lt_ints l b items items2 n n2 dd dd2 sl sl2 ns ms hi hj)
    ⟨ho, ho2, show Value.bool (lexLt ns ms) ≠ Value.notImplemented ∧ Q (.bool (lexLt ns ms)) s from ⟨(fun x => nomatch x), h⟩⟩ hu

/-- t + u, t not empty -/
theorem cat_tup {t b : Addr} {vs ws : List Value} {Q : Value → Shared → Prop} (ht : IsTup s.heap t vs.toArray) (hb : IsTup s.heap b ws.toArray) (hv : vs ≠ [])
    (h1 : ws = [] → Q (.ref t) s) (h2 : ws ≠ [] → Q (.ref s.heap.objs.size) { s with heap := s.heap.push { cls := .type "tuple", data := .seq (vs ++ ws).toArray } })
    (hsz : vs.length + ws.length ≤ sizeLine) : wpAny (model prog w) A (binaryOp .Add (.ref t) (.ref b)) Q E s := by
  obtain ⟨⟨cls, dd, data, sl⟩, ho, hc, n, hd⟩ := id ht
  obtain ⟨⟨cls2, dd2, data2, sl2⟩, ho2, hc2, n2, hd2⟩ := id hb
  simp only at hc hd hc2 hd2
  subst hc hd hc2 hd2
  have e : vs.toArray ++ ws.toArray = (vs ++ ws).toArray := by simp
  by_cases hw : ws = []
  · exact concat_meets ⟨_, ho, rfl⟩ ⟨_, ho2, rfl⟩ noFill_tuple_add seq_tuple_add PySem.F.slot_tuple_add PySem.F.entry_tuple_add (PySem.F.args_tuple_add_2 _ _)
      (tuple_addW1 t b vs.toArray ws.toArray n n2 dd dd2 sl sl2 (by simpa using hv) (by simp [hw])) ⟨ho, ho2, h1 hw⟩
  · refine concat_meets ⟨_, ho, rfl⟩ ⟨_, ho2, rfl⟩ noFill_tuple_add seq_tuple_add PySem.F.slot_tuple_add PySem.F.entry_tuple_add (PySem.F.args_tuple_add_2 _ _)
      (tuple_addW2 t b vs.toArray ws.toArray n n2 dd dd2 sl sl2 (by simpa using hv) (by simpa using hw) (by rw [List.size_toArray, List.size_toArray]; exact hsz)) ⟨ho, ho2, ?_⟩
    rw [e]
    exact h2 hw

/-! ### t[a:b], not the whole -/
/-- a slice's bound as a place among n (d where it is left out) -/
noncomputable def sIx (n d : Nat) : Option Int → Nat
  | none => d
  | some v => if v < 0 then (v + (n : Int)).toNat else min v.toNat n
theorem sIx_none (n d : Nat) : sIx n d none = d := rfl
theorem sIx_nat (n d k : Nat) : sIx n d (some (k : Int)) = min k n := by
  show (if (k : Int) < 0 then ((k : Int) + (n : Int)).toNat else min (k : Int).toNat n) = min k n
  rw [if_neg (by omega), Int.toNat_natCast]
theorem sIx_le (n d : Nat) (hd : d ≤ n) (o : Option Int) : sIx n d o ≤ n := by
  cases o with
  | none => exact hd
  | some v =>
    show (if v < 0 then (v + (n : Int)).toNat else min v.toNat n) ≤ n
    by_cases hv : v < 0
    · rw [if_pos hv]; omega
    · rw [if_neg hv]; exact Nat.min_le_right _ _
theorem clip_eq (v : Int) (n d : Nat) : (if v < 0 then max (v + (n : Int)) 0 else min v (n : Int)) = ((sIx n d (some v) : Nat) : Int) := by
  show (if v < 0 then max (v + (n : Int)) 0 else min v (n : Int)) = (((if v < 0 then (v + (n : Int)).toNat else min v.toNat n) : Nat) : Int)
  by_cases hv : v < 0
  · simp only [if_pos hv]; omega
  · simp only [if_neg hv]; omega
theorem adjust_gen (lo hi : Option Int) (n : Nat) : Builtin.Slice.sliceAdjust lo hi 1 (n : Int) = (((sIx n 0 lo : Nat) : Int), ((sIx n n hi : Nat) : Int)) := by
  have h1 : ¬ ((1 : Int) < 0) := by omega
  unfold Builtin.Slice.sliceAdjust
  simp only [h1, if_false]
  refine Prod.ext ?_ ?_
  · cases lo with
    | none => rfl
    | some v => exact clip_eq v n 0
  · cases hi with
    | none => rfl
    | some v => exact clip_eq v n n
theorem places_gen (i j : Nat) : Builtin.Slice.slicePlaces (i : Int) (j : Int) 1 = j - i := by
  unfold Builtin.Slice.slicePlaces
  have h1 : (1 : Int) > 0 := by omega
  simp only [h1, if_true, Int.ediv_one]
  split <;> omega
theorem slicePart_ {v : Value} {o : Option Int} {Q : Option Int → Shared → Prop} (p : IsPart v o) (h : Q o s) : wpAny (model prog w) A (Builtin.Slice.slicePartIndex v) Q E s := by
  cases p with
  | none => exact slicePart_none h
  | int i t => exact slicePart_int h
theorem sliceApplied_gen {sl : Addr} {vl vu : Value} {lo hi : Option Int} {n : Nat} {Q : Int × Int × Nat → Shared → Prop} (hs : s.heap.IsSliceOf sl vl vu .none) (pl : IsPart vl lo) (pu : IsPart vu hi)
    (h : Q (((sIx n 0 lo : Nat) : Int), 1, sIx n n hi - sIx n 0 lo) s) : wpAny (model prog w) A (Builtin.Slice.sliceApplied (.ref sl) (pure (n : Int))) Q E s := by
  obtain ⟨os, hos, hcs, hds⟩ := id hs
  unfold Builtin.Slice.sliceApplied Builtin.Slice.sliceFields
  refine wpAny_bind (wpAny_bind (wpAny_field hos hds (x := vl) rfl (wpAny_bind (wpAny_field hos hds (x := vu) rfl (wpAny_bind (wpAny_field hos hds (x := .none) rfl (wpAny_pure ?_)))))))
  refine wpAny_bind (slicePart_none ?_)
  show wpAny _ _ (if ((1 : Int) == 0) = true then _ else _) _ _ s
  rw [if_neg (by decide)]
  refine wpAny_bind (slicePart_ pl (wpAny_bind (slicePart_ pu (wpAny_bind (wpAny_pure ?_)))))
  show wpAny _ _ (match Builtin.Slice.sliceAdjust lo hi 1 (n : Int) with | (lo, hi) => pure (lo, (1 : Int), Builtin.Slice.slicePlaces lo hi 1)) _ _ s
  rw [adjust_gen lo hi n]
  show wpAny _ _ (pure (((sIx n 0 lo : Nat) : Int), (1 : Int), Builtin.Slice.slicePlaces ((sIx n 0 lo : Nat) : Int) ((sIx n n hi : Nat) : Int) 1)) _ _ s
  rw [places_gen]
  exact wpAny_pure h
theorem pick_gen (xs : Array Value) (i k : Nat) : ((List.range k).filterMap fun (m : Nat) => xs[((i : Int) + (m : Int) * 1).toNat]?).toArray = ((xs.toList.drop i).take k).toArray := by
  have e : (fun (m : Nat) => xs[((i : Int) + (m : Int) * 1).toNat]?) = fun m => xs[i + m]? := by
    funext m
    have : ((i : Int) + (m : Int) * 1).toNat = i + m := by omega
    rw [this]
  rw [e]
  have := pick_run xs i k
  rw [List.filterMap_map] at this
  have e2 : ((fun x => xs[x]?) ∘ fun x => i + x) = fun m => xs[i + m]? := rfl
  rw [e2] at this
  rw [this]

theorem getItem_tuple_cut {t sl : Addr} {items : Array Value} {vl vu : Value} {lo hi : Option Int} {Q : Value → Shared → Prop} (ht : IsTup s.heap t items) (hs : s.heap.IsSliceOf sl vl vu .none) (pl : IsPart vl lo) (pu : IsPart vu hi)
    (hw : ¬ (sIx items.size 0 lo = 0 ∧ sIx items.size items.size hi = items.size))
    (h : Q (.ref s.heap.objs.size) { s with heap := s.heap.push { cls := .type "tuple", data := .seq ((items.toList.drop (sIx items.size 0 lo)).take (sIx items.size items.size hi - sIx items.size 0 lo)).toArray } })
    (hsz : items.size ≤ sizeLine) : wpAny (model prog w) A (getItem (.ref t) (.ref sl)) Q E s := by
  have htake : sizeOk (.seq ((items.toList.drop (sIx items.size 0 lo)).take (sIx items.size items.size hi - sIx items.size 0 lo)).toArray) := by
    show ((items.toList.drop (sIx items.size 0 lo)).take (sIx items.size items.size hi - sIx items.size 0 lo)).toArray.size ≤ sizeLine
    rw [List.size_toArray, List.length_take, List.length_drop, Array.length_toList]
    omega
  have hj : sIx items.size items.size hi ≤ items.size := sIx_le _ _ (Nat.le_refl _) hi
  obtain ⟨os, hos, hcs, hds⟩ := id hs
  have hTs : s.TypeIs (.ref sl) "slice" := ⟨os, hos, hcs⟩
  unfold getItem
  try with_reducible refine wpAny_holding ?_
  first | refine wpAny_bind (wpAny_pure ?_) | skip
  refine wpAny_bind (wpAny_sequenceKey ht.typeIs (by decide) ?_)
  refine wpAny_bind (wpAny_callSpecial?_slot (name := Str.ofString "__getitem__") ht.typeIs PyProof.Rows.slot_tuple_getitem
    (wpAny_call_entry PyProof.Rows.slot_tuple_getitem ht.typeIs entry_tuple_getitem ?_ (args_tuple_getitem _ _)))
  show wpAny _ _ (Builtin.Tuple.tupleItemsOf (.ref t) >>= _) _ _ s
  refine wpAny_bind (tupleItemsOf_ ht ?_)
  refine wpAny_bind (wpAny_typeOf hTs ?_)
  rw [if_pos (by decide)]
  refine wpAny_bind (sliceApplied_gen hs pl pu ?_)
  have hno : ¬ ((((sIx items.size 0 lo : Nat) : Int) == 0 && (1 : Int) == 1 && (sIx items.size items.size hi - sIx items.size 0 lo) == items.size) = true) := by
    intro q
    rw [Bool.and_eq_true, Bool.and_eq_true] at q
    have q1 : ((sIx items.size 0 lo : Nat) : Int) = 0 := eq_of_beq q.1.1
    have q2 : sIx items.size items.size hi - sIx items.size 0 lo = items.size := eq_of_beq q.2
    exact hw ⟨by omega, by omega⟩
  show wpAny _ _ (if (((sIx items.size 0 lo : Nat) : Int) == 0 && (1 : Int) == 1 && (sIx items.size items.size hi - sIx items.size 0 lo) == items.size) = true then _ else _) _ _ s
  rw [if_neg hno, pick_gen]
  first
    | exact wpAny_bind (m := Builtin.Tuple.tupleExact _) (wpAny_newObj_type (wpAny_pure ⟨_, rfl, wpAny_pure h⟩) htake)
    | exact wpAny_bind (m := Builtin.Tuple.tupleExact _) (wpAny_newObj_type (wpAny_bind (wpAny_pure (wpAny_pure ⟨_, rfl, wpAny_pure h⟩))) htake)
    | exact wpAny_bind (wpAny_bind (m := Builtin.Tuple.tupleExact _) (wpAny_newObj_type (wpAny_pure (wpAny_pure ⟨_, rfl, wpAny_pure h⟩)) htake))
    | exact wpAny_bind (wpAny_bind (m := Builtin.Tuple.tupleExact _) (wpAny_newObj_type (wpAny_pure ⟨_, rfl, wpAny_pure h⟩) htake))
end
end HT

namespace L2
open PySem PySem.Spec PyProof.Rows

/-! ### the parts of a slice -/
noncomputable abbrev TO := St → Hp → (Option Int → Hp → Prop) → Prop
/-- a slice's part (left out, or an int) -/
noncomputable def PO (X : Cx) (e : Option Expr) (t : TO) : Prop :=
  ∀ (pins : List (Addr × Obj)) (s : Shared) (σ : St) (H : Hp) (Q : Option Int → Hp → Prop), Inv X pins σ H s → t σ H Q →
    wpAny (model X.prog X.w) X.A (evalPart e X.env) (fun u s' => ∃ o H', Inv X pins σ H' s' ∧ IsPart u o ∧ Q o H') X.xe s
noncomputable def tNoPart : TO := fun _ H Q => Q none H
noncomputable def tPart (t : TE) : TO := fun σ H Q => t σ H fun x H1 => ∃ i, x = .int i ∧ Q (some i) H1

theorem intsAre_of {ns : List Int} : ∀ {us : List Value}, Vals (ns.map V.int) us → IntsAre us ns := by
  induction ns with
  | nil => intro us r; rw [List.map_nil] at r; cases r; exact .nil
  | cons n ns ih =>
    intro us r
    rw [List.map_cons] at r
    cases r with
    | cons r1 r2 =>
      obtain ⟨t, e⟩ := r1
      subst e
      exact .cons n t (ih r2)

section
variable {X : Cx} {e : Expr} {te : TE} {lo hi : Option Expr} {tl th : TO} {pos p2 : Pos}

theorem po_none : PO X none tNoPart := by
  intro pins s σ H Q I h
  rw [evalPart_none]
  exact wpAny_pure ⟨none, H, I, .none, h⟩
theorem po_some (h : PE X e te) : PO X (some e) (tPart te) := by
  intro pins s σ H Q I hw
  rw [evalPart_some]
  refine thn (h pins s σ H _ I hw) fun u s1 ⟨x, H1, I1, r1, q1⟩ => ?_
  obtain ⟨i, rfl, q⟩ := q1
  obtain ⟨t, rfl⟩ := r1
  exact ⟨some i, H1, I1, .int i t, q⟩

/-- what a slice of a value is, by values: the slice object stands at sl -/
noncomputable def SlR (X : Cx) (r : V → Option Int → Option Int → Hp → VK → Prop) : Prop :=
  ∀ (pins : List (Addr × Obj)) (s : Shared) (σ : St) (H : Hp) (x : V) (v vl vu : Value) (lo hi : Option Int) (sl : Addr) (Q : VK), Inv X pins σ H s → RelV x v → s.heap.IsSliceOf sl vl vu .none → IsPart vl lo → IsPart vu hi → r x lo hi H Q →
    ∃ T id, typeLookup (.type T) "__getitem__" = pure (some (.builtin id)) ∧ s.TypeIs v T ∧ wpAny (model X.prog X.w) X.A (getItem v (.ref sl)) (EP X pins σ Q) X.xe s
noncomputable def tSl (r : V → Option Int → Option Int → Hp → VK → Prop) (te : TE) (tl th : TO) : TE := fun σ H Q => te σ H fun x H1 => tl σ H1 fun l H2 => th σ H2 fun u H3 => r x l u H3 Q
/-- a[lo:hi], any a -/
theorem pe_slice {r : V → Option Int → Option Int → Hp → VK → Prop} (hr : SlR X r) (he : PE X e te) (hl : PO X lo tl) (hu : PO X hi th) : PE X (.Subscript e (.Slice lo hi none p2) pos) (tSl r te tl th) := by
  intro pins s σ H Q I h
  refine Subscript_ (thn (he pins s σ H _ I h) fun v s1 ⟨x, H1, I1, r1, q1⟩ => ?_)
  refine wpAny_Slice (thn (hl pins s1 σ H1 _ I1 q1) fun vl s2 ⟨l, H2, I2, pl, q2⟩ => thn (hu pins s2 σ H2 _ I2 q2) fun vu s3 ⟨u, H3, I3, pu, q3⟩ => ?_)
  rw [evalPart_none]
  refine wpAny_pure ?_
  have I4 : Inv X pins σ H3 { s3 with heap := s3.heap.push { cls := .type "slice", data := .fields #[vl, vu, .none] } } := I3.kept (t' := s3.toks) fun b ob q => Heap.get?_push_of_some _ q
  obtain ⟨T, id, hT, ht, hg⟩ := hr pins { s3 with heap := s3.heap.push { cls := .type "slice", data := .fields #[vl, vu, .none] } } σ H3 x v vl vu l u s3.heap.objs.size Q I4 r1 (Heap.IsSliceOf.new ..) pl pu q3
  show wpAny (model X.prog X.w) X.A (subscriptTail e (.Slice lo hi none p2) v (.ref s3.heap.objs.size)) (EP X pins σ Q) X.xe { s3 with heap := s3.heap.push { cls := .type "slice", data := .fields #[vl, vu, .none] } }
  exact tail_any (ops := [.ref s3.heap.objs.size, v]) ht hT hg (by with_unfolding_all rfl)

/-- the items of xs[lo:hi] -/
noncomputable def cutV (xs : List V) (lo hi : Option Int) : List V := (xs.drop (HT.sIx xs.length 0 lo)).take (HT.sIx xs.length xs.length hi - HT.sIx xs.length 0 lo)
theorem cutV_length (xs : List V) (lo hi : Option Int) : (cutV xs lo hi).length ≤ xs.length := by
  unfold cutV
  rw [List.length_take, List.length_drop]
  omega
/-- t[lo:hi], not the whole of it (the whole would be t itself) -/
noncomputable def rSlT (K : PySem.W.Frag) : V → Option Int → Option Int → Hp → VK → Prop := fun x lo hi H Q => ∃ a xs, x = .ref a ∧ SqT K H a xs ∧
  ¬ (HT.sIx xs.length 0 lo = 0 ∧ HT.sIx xs.length xs.length hi = xs.length) ∧ ∀ p, H p = none → Q (.ref p) (upd H p (.tup (cutV xs lo hi)))
theorem sl_tup : SlR X (rSlT X.K) := by
  intro pins s σ H x v vl vu lo hi sl Q I rx hs pl pu h
  obtain ⟨a, xs, rfl, hx, hw, q⟩ := h
  cases rx
  obtain ⟨its, r, ht, hz⟩ := I.tuple hx
  have hlen : its.toArray.size = xs.length := by rw [List.size_toArray]; exact r.length.symm
  refine ⟨"tuple", _, PyProof.Rows.slot_tuple_getitem.lookup, ht.typeIs, ?_⟩
  refine HT.getItem_tuple_cut ht hs pl pu (by rw [hlen]; exact hw) ?_ (by rw [hlen]; exact hz)
  rw [hlen]
  refine ⟨.ref s.heap.objs.size, _, I.laid (t' := s.toks) (o := .tup (cutV xs lo hi)) (fun b ob q => Heap.get?_push_of_some _ q) (Nat.le_refl _) ?_, rfl, q _ (I.hok.fresh (Nat.le_refl _))⟩
  exact ⟨Nat.le_trans (cutV_length xs lo hi) hz, _, (r.drop (HT.sIx xs.length 0 lo)).take (HT.sIx xs.length xs.length hi - HT.sIx xs.length 0 lo), IsTupN.new _ _⟩

/-! ### t < u, t + u -/
noncomputable def rLtT (K : PySem.W.Frag) : R2 := fun x y H Q => ∃ a b ns ms, x = .ref a ∧ y = .ref b ∧ SqT K H a (ns.map V.int) ∧ SqT K H b (ms.map V.int) ∧ Q (.bl (HT.lexLt ns ms)) H
theorem op_ltT (hu : X.A.units < cLine) : OpR X (compareOp .Lt) (rLtT X.K) := by
  intro pins s σ H x y v u Q I rx ry h
  obtain ⟨a, b, ns, ms, rfl, rfl, ha, hb, q⟩ := h
  cases rx
  cases ry
  obtain ⟨its, r1, p1, _⟩ := I.tuple ha
  obtain ⟨its2, r2, p2, _⟩ := I.tuple hb
  have i1 : IntsAre its.toArray.toList ns := intsAre_of r1
  have i2 : IntsAre its2.toArray.toList ms := intsAre_of r2
  exact HT.lt_tupInts p1 p2 i1 i2 hu ⟨.bl (HT.lexLt ns ms), H, I, rfl, q⟩
/-- t + u, t not empty: u empty gives t itself -/
noncomputable def rCatT (K : PySem.W.Frag) : R2 := fun x y H Q => ∃ a b xs ys, x = .ref a ∧ y = .ref b ∧ SqT K H a xs ∧ SqT K H b ys ∧ xs ≠ [] ∧ xs.length + ys.length ≤ sizeLine ∧
  (ys = [] → Q (.ref a) H) ∧ (ys ≠ [] → ∀ p, H p = none → Q (.ref p) (upd H p (.tup (xs ++ ys))))
theorem Vals.nil_iff {xs : List V} {us : List Value} (r : Vals xs us) : us = [] ↔ xs = [] := by
  cases r with
  | nil => simp
  | cons _ _ => simp
theorem op_catT : OpR X (binaryOp .Add) (rCatT X.K) := by
  intro pins s σ H x y v u Q I rx ry h
  obtain ⟨a, b, xs, ys, rfl, rfl, ha, hb, hx, hz, q1, q2⟩ := h
  cases rx
  cases ry
  obtain ⟨its, r1, p1, _⟩ := I.tuple ha
  obtain ⟨its2, r2, p2, _⟩ := I.tuple hb
  refine HT.cat_tup p1 p2 (fun z => hx (r1.nil_iff.mp z)) (fun z => ⟨.ref a, H, I, rfl, q1 (r2.nil_iff.mp z)⟩) (fun z => ?_) (by rw [← r1.length, ← r2.length]; exact hz)
  refine ⟨.ref s.heap.objs.size, _, I.laid (t' := s.toks) (o := .tup (xs ++ ys)) (fun b ob q => Heap.get?_push_of_some _ q) (Nat.le_refl _) ?_, rfl, q2 (fun w => z (r2.nil_iff.mpr w)) _ (I.hok.fresh (Nat.le_refl _))⟩
  exact ⟨by rw [List.length_append]; exact hz, _, r1.append r2, IsTupN.new _ _⟩
end
end L2

namespace L2
open PySem PySem.Spec PyProof.Rows

/-! ### places -/
/-- the place that an index of any sign means -/
noncomputable def ixN (n : Nat) (i : Int) : Option Nat := if 0 ≤ i then (if i < n then some i.toNat else none) else if -(n : Int) ≤ i then some (i + n).toNat else none
noncomputable def atI {α : Type} (xs : List α) (i : Int) : Option α := (ixN xs.length i).bind fun j => xs[j]?
theorem ixN_seq {n : Nat} {i : Int} {j : Nat} (h : ixN n i = some j) : seqIndex? i n = some j ∧ j < n ∧ -(n : Int) ≤ i ∧ i < n := by
  unfold ixN at h
  by_cases h0 : 0 ≤ i
  · rw [if_pos h0] at h
    by_cases h1 : i < n
    · rw [if_pos h1] at h
      have e : i.toNat = j := Option.some.inj h
      exact ⟨by rw [seqIndex_of h0 h1, e], by omega, by omega, h1⟩
    · rw [if_neg h1] at h; cases h
  · rw [if_neg h0] at h
    by_cases h1 : -(n : Int) ≤ i
    · rw [if_pos h1] at h
      have e : (i + n).toNat = j := Option.some.inj h
      exact ⟨by rw [seqIndex_neg (by omega) h1, e], by omega, h1, by omega⟩
    · rw [if_neg h1] at h; cases h
theorem atI_get {α : Type} {xs : List α} {i : Int} {v : α} (h : atI xs i = some v) : ∃ j, seqIndex? i xs.length = some j ∧ xs[j]? = some v ∧ j < xs.length ∧ -(xs.length : Int) ≤ i ∧ i < xs.length := by
  unfold atI at h
  cases e : ixN xs.length i with
  | none => rw [e] at h; cases h
  | some j =>
    rw [e] at h
    obtain ⟨h1, h2, h3, h4⟩ := ixN_seq e
    exact ⟨j, h1, h, h2, h3, h4⟩
theorem atI_nat {α : Type} {xs : List α} {j : Nat} {v : α} (h : xs[j]? = some v) : atI xs (j : Int) = some v := by
  have hj : j < xs.length := (List.getElem?_eq_some_iff.mp h).1
  have e : ixN xs.length (j : Int) = some j := by
    unfold ixN
    rw [if_pos (by omega), if_pos (by omega)]; simp
  unfold atI; rw [e]; exact h

/-! ### what may be subscripted -/
/-- what stands as an index of a plain subscript -/
noncomputable def PlainIx (b : Expr) : Prop := ∀ o i, subscripted b false o i = operate [o, i] (getItem o i)
/-- a subscript by values -/
noncomputable def IxR (X : Cx) (r : R2) : Prop :=
  ∀ (value slice : Expr) (pins : List (Addr × Obj)) (s : Shared) (σ : St) (H : Hp) (x y : V) (v u : Value) (Q : VK), Inv X pins σ H s → RelV x v → RelV y u → r x y H Q →
    subscripted slice false v u = operate [v, u] (getItem v u) → wpAny (model X.prog X.w) X.A (subscriptTail value slice v u) (EP X pins σ Q) X.xe s
/-- a call of a builtin's method by values: the receiver, the arguments -/
noncomputable def MtR (X : Cx) (id : String) (r : V → List V → Hp → VK → Prop) : Prop :=
  ∀ (pins : List (Addr × Obj)) (s : Shared) (σ : St) (H : Hp) (x : V) (xs : List V) (v : Value) (us : List Value) (Q : VK), Inv X pins σ H s → RelV x v → Vals xs us → r x xs H Q →
    wpAny (model X.prog X.w) X.A (call (.builtin id) (v :: us)) (EP X pins σ Q) X.xe s
section
variable {X : Cx} {a b : Expr} {ta tb : TE} {pos : Pos}
/-- a[b] -/
theorem pe_ix {r : R2} (hr : IxR X r) (ha : PE X a ta) (hb : PE X b tb) (hs : PlainIx b) : PE X (.Subscript a b pos) (tOp r ta tb) := by
  intro pins s σ H Q I h
  exact Subscript_ (binT ha hb I h fun v u s2 x y H2 I2 rx ry q => hr a b pins s2 σ H2 x y v u Q I2 rx ry q (hs _ _))

noncomputable def rIxL (K : PySem.W.Frag) : R2 := fun x y H Q => ∃ p xs i v, x = .ref p ∧ y = .int i ∧ SqL K H p xs ∧ atI xs i = some v ∧ Q v H
noncomputable def rIxT (K : PySem.W.Frag) : R2 := fun x y H Q => ∃ p xs i v, x = .ref p ∧ y = .int i ∧ SqT K H p xs ∧ atI xs i = some v ∧ Q v H
theorem ix_list : IxR X (rIxL X.K) := by
  intro value slice pins s σ H x y v u Q I rx ry h hs
  obtain ⟨p, xs, i, z, rfl, rfl, hq, he, q⟩ := h
  cases rx
  obtain ⟨t, rfl⟩ := ry
  obtain ⟨its, r, pl, hz⟩ := I.list hq
  obtain ⟨j, h1, h2, h3, h4, h5⟩ := atI_get he
  obtain ⟨w, ew, rw'⟩ := r.get h2
  have hl := r.length
  have hn := line63
  have fin : EP X pins σ Q w s := ⟨z, H, I, rw', q⟩
  by_cases h0 : 0 ≤ i
  · have hj : i.toNat = j := by
      rw [seqIndex_of h0 h5] at h1
      exact Option.some.inj h1
    exact item_listR pl.isList h0 (by omega) (by rw [hj]; simpa using ew) fin hs
  · have hj : (i + (its.toArray.size : Int)).toNat = j := by
      rw [seqIndex_neg (by omega) h4] at h1
      rw [List.size_toArray, ← hl]
      exact Option.some.inj h1
    exact subscriptTail_builtinR (x := w) pl.isList.typeIs slot_list_getitem.lookup
      (wpAny_getItem_list_neg (Q := fun r s' => r = w ∧ EP X pins σ Q r s') pl.isList (by omega) (by rw [List.size_toArray] <;> omega) (by omega) (by rw [hj]; simpa using ew) ⟨rfl, fin⟩) hs
theorem ix_tup : IxR X (rIxT X.K) := by
  intro value slice pins s σ H x y v u Q I rx ry h hs
  obtain ⟨p, xs, i, z, rfl, rfl, hq, he, q⟩ := h
  cases rx
  obtain ⟨t, rfl⟩ := ry
  obtain ⟨its, r, pl, hz⟩ := I.tuple hq
  obtain ⟨j, h1, h2, h3, h4, h5⟩ := atI_get he
  obtain ⟨w, ew, rw'⟩ := r.get h2
  have hl := r.length
  have hn := line63
  have fin : EP X pins σ Q w s := ⟨z, H, I, rw', q⟩
  exact subscriptTail_builtinR (x := w) pl.typeIs slot_tuple_getitem.lookup
    (getItem_tuple (j := j) (Q := fun r s' => r = w ∧ EP X pins σ Q r s') pl (by omega) (by omega) (by rw [List.size_toArray, ← hl]; exact h1) (by simpa using ew) ⟨rfl, fin⟩) hs

/-! ### xs[i] = v, any sign -/
theorem Inv.lst {pins : List (Addr × Obj)} {σ : St} {H : Hp} {s : Shared} {p : Addr} {xs : List V} (I : Inv X pins σ H s) (h : H p = some (.lst xs)) :
    ∃ (its : List Value) (n : Nat), Vals xs its ∧ s.heap.get? p = some { cls := .type "list", data := .seq its.toArray n } ∧ xs.length ≤ sizeLine := by
  obtain ⟨z, its, n, r, e⟩ := I.hok p _ h
  exact ⟨its, n, r, e, z⟩

/-! ### slices -/

/-! ### in, not in: flat items -/

/-! ### len, list(x), tuple(x) of any list or tuple that is read -/
theorem call_len_seq : CallR X (.builtin "len") (fun xs H Q => ∃ p ys, xs = [.ref p] ∧ (SqL X.K H p ys ∨ SqT X.K H p ys) ∧ Q (.int ys.length) H) := by
  intro pins s σ H xs us Q I r h
  obtain ⟨p, ys, rfl, hq, q⟩ := h
  obtain ⟨u, rfl, rx⟩ := vals1 r
  cases rx
  have hn := line63
  rcases hq with hq | hq
  · obtain ⟨its, r', pl, hz⟩ := I.list hq
    have hlen := r'.length
    exact Calls.call_len_list pl.isList (by simp only [List.size_toArray] <;> omega) ⟨.int ys.length, H, I.tok _, ⟨s.toks + 1, by rw [List.size_toArray, hlen]⟩, q⟩
  · obtain ⟨its, r', pl, hz⟩ := I.tuple hq
    have hlen := r'.length
    exact len_tuple pl (by simp only [List.size_toArray] <;> omega) ⟨.int ys.length, H, I.tok _, ⟨s.toks + 1, by rw [List.size_toArray, hlen]⟩, q⟩
theorem call_list_of : CallR X (.type "list") (fun xs H Q => ∃ p ys, xs = [.ref p] ∧ (SqL X.K H p ys ∨ SqT X.K H p ys) ∧ ∀ l, H l = none → Q (.ref l) (upd H l (.lst ys))) := by
  intro pins s σ H xs us Q I r h
  obtain ⟨p, ys, rfl, hq, q⟩ := h
  obtain ⟨u, rfl, rx⟩ := vals1 r
  cases rx
  have fin : ∀ (its : List Value), Vals ys its → ys.length ≤ sizeLine → ∀ (h' : Heap) (c' : Nat), (∀ b o', s.heap.get? b = some o' → h'.get? b = some o') →
      h'.get? s.heap.objs.size = some { cls := .type "list", dict := none, data := .seq its.toArray c', slots := #[] } → EP X pins σ Q (.ref s.heap.objs.size) { s with heap := h' } := fun its r' hz h' c' kp e =>
    ⟨.ref s.heap.objs.size, _, I.laid (t' := s.toks) kp (Nat.le_refl _) (show ObjOk X.prog X.w _ h' _ (.lst ys) from ⟨hz, its, c', r', e⟩), rfl, q _ (I.hok.fresh (Nat.le_refl _))⟩
  rcases hq with hq | hq
  · obtain ⟨its, r', pl, hz⟩ := I.list hq
    have hlen := r'.length
    obtain ⟨o, ho, hc, n, hd⟩ := pl.isList
    exact call_list_seq p (.inl rfl) ho hc hd (fun h' c' kp e => fin its r' hz h' c' kp e) (by simp only [List.size_toArray] <;> omega)
  · obtain ⟨its, r', pl, hz⟩ := I.tuple hq
    have hlen := r'.length
    obtain ⟨o, ho, hc, n, hd⟩ := pl
    exact call_list_seq p (.inr rfl) ho hc hd (fun h' c' kp e => fin its r' hz h' c' kp e) (by simp only [List.size_toArray] <;> omega)
theorem call_tuple_of : CallR X (.type "tuple") (fun xs H Q => ∃ p ys, xs = [.ref p] ∧ ((SqL X.K H p ys ∧ ∀ l, H l = none → Q (.ref l) (upd H l (.tup ys))) ∨ (SqT X.K H p ys ∧ Q (.ref p) H))) := by
  intro pins s σ H xs us Q I r h
  obtain ⟨p, ys, rfl, h⟩ := h
  obtain ⟨u, rfl, rx⟩ := vals1 r
  cases rx
  rcases h with ⟨hq, q⟩ | ⟨hq, q⟩
  · obtain ⟨its, r', pl, hz⟩ := I.list hq
    have hlen := r'.length
    refine call_tuple_list pl.isList (fun h' kp => ?_) (by simp only [List.size_toArray] <;> omega)
    have I1 : Inv X pins σ H { s with heap := h' } := I.kept (t' := s.toks) kp
    have I2 : Inv X pins σ (upd H h'.objs.size (.tup ys)) { s with heap := h'.push { cls := .type "tuple", data := .seq its.toArray } } :=
      I1.laid (t' := s.toks) (fun b o e => Heap.get?_push_of_some _ e) (Nat.le_refl _) (show ObjOk X.prog X.w _ _ _ (.tup ys) from ⟨hz, its, r', IsTupN.new _ _⟩)
    exact ⟨.ref h'.objs.size, _, I2, rfl, q _ (I1.hok.fresh (Nat.le_refl _))⟩
  · obtain ⟨its, r', pl, hz⟩ := I.tuple hq
    exact call_tuple_same pl ⟨.ref p, H, I, rfl, q⟩

/-! ### the call of a builtin's method: o.m(..) -/
/-- the value is of that builtin type -/
noncomputable def tyV (K : PySem.W.Frag) (T : String) (x : V) (H : Hp) : Prop := match x with
  | .str _ => T = "str"
  | .int _ => T = "int"
  | .ref p => (T = "list" ∧ ∃ xs, SqL K H p xs) ∨ (T = "tuple" ∧ ∃ o, K.lookup p = some o ∧ o.cls = .type "tuple" ∧ o.dict = none) ∨
      (T = "dict" ∧ ((∃ kvs, H p = some (.dK kvs)) ∨ ∃ kvs, H p = some (.dT kvs))) ∨ (T = "set" ∧ ∃ S n, H p = some (.set S n))
  | _ => False
theorem tyV_is {pins : List (Addr × Obj)} {σ : St} {H : Hp} {s : Shared} {T : String} {x : V} {v : Value} (I : Inv X pins σ H s) (r : RelV x v) (ty : tyV X.K T x H) :
    s.TypeIs v T ∧ ∀ a, v = .ref a → ∃ ob, s.heap.get? a = some ob ∧ ob.dict = none := by
  cases x with
  | str z =>
    obtain ⟨t, rfl⟩ := r
    cases (show T = "str" from ty)
    exact ⟨typeIs_str s z t, fun _ e => nomatch e⟩
  | int i =>
    obtain ⟨t, rfl⟩ := r
    cases (show T = "int" from ty)
    exact ⟨typeIs_int s i t, fun _ e => nomatch e⟩
  | ref p =>
    cases r
    rcases ty with ⟨rfl, xs, hq⟩ | ⟨rfl, o, hk, hc, hd⟩ | ⟨rfl, hk⟩ | ⟨rfl, S, n, hk⟩
    · obtain ⟨its, _, pl, _⟩ := I.list hq
      refine ⟨pl.isList.typeIs, fun a e => ?_⟩
      cases e
      obtain ⟨o, n, e, c, hd, _⟩ := pl
      exact ⟨o, e, hd⟩
    · refine ⟨⟨o, I.kIn p o hk, hc⟩, fun a e => ?_⟩
      cases e
      exact ⟨o, I.kIn _ o hk, hd⟩
    · have z : ∃ o, s.heap.get? p = some o ∧ o.ExactDict := by
        rcases hk with ⟨kvs, hk⟩ | ⟨kvs, hk⟩
        · obtain ⟨_, _, _, _, o, _, _, e, ex, _⟩ := I.hok p _ hk
          exact ⟨o, e, ex⟩
        · obtain ⟨_, _, _, _, o, _, _, e, ex, _⟩ := I.hok p _ hk
          exact ⟨o, e, ex⟩
      obtain ⟨o, e, ex⟩ := z
      refine ⟨⟨o, e, ex.1⟩, fun a e2 => ?_⟩
      cases e2
      exact ⟨o, e, ex.2.1⟩
    · obtain ⟨o, _, _, _, e, ex, _⟩ := I.hok p _ hk
      refine ⟨⟨o, e, ex.1⟩, fun a e2 => ?_⟩
      cases e2
      exact ⟨o, e, ex.2.1⟩
  | _ => exact False.elim ty
noncomputable def tBM (K : PySem.W.Frag) (T : String) (r : V → List V → Hp → VK → Prop) (to : TE) (t : TA) : TE := fun σ H Q => to σ H fun x H1 => tyV K T x H1 ∧ t σ H1 fun xs H2 => r x xs H2 Q
variable {o e : Expr} {es : List Expr} {to : TE} {t : TA} {name : Str} {apos cpos : Pos} {T id : String} {r : V → List V → Hp → VK → Prop}
theorem pe_bm (pa : PlainAttrs T) (slot : Slot T name id) (hty : typeOf (.builtin id) = pure (.type "method_descriptor")) (hm : MtR X id r) (ho : PE X o to) (ha : PA X (e :: es) t)
    (hbase : attributeBase o name X.env (eval o X.env) = eval o X.env := by rfl)
    (hfew : ((backTo cpos (starEach (e :: es) X.env)).all (fun x => !x.1) && (backToKw cpos (keywordEach [] X.env)).all (fun x => x.1.isSome)
      && decide ((e :: es).length + ([] : List Keyword).length + (if ([] : List Keyword).isEmpty then 0 else 1) < 30)) = true := by rfl)
    (hline : (apos.endLine == cpos.line) = true := by rfl) (hs : starEach (e :: es) X.env = (false, eval e X.env) :: starEach es X.env := by rfl) (hplain : (backTo cpos (starEach es X.env)).any (·.1) = false := by rfl) :
    PE X (.Call (.Attribute o name apos) (e :: es) [] cpos) (tBM X.K T r to t) := by
  intro pins s σ H Q I h
  refine wpAny_Call_method_late hbase hfew hline rfl (thn (ho pins s σ H _ I h) fun v s1 ⟨x, H1, I1, r1, ty, q1⟩ => ?_)
  obtain ⟨h1, h2⟩ := tyV_is I1 r1 ty
  refine ⟨T, id, pa, slot, hty, h1, h2, ?_⟩
  have hA := ha cpos pins s1 σ H1 _ I1 q1
  rw [hs] at hA ⊢
  refine Calls.callWith_builtin (by show (false || (backTo cpos (starEach es X.env)).any (·.1)) = false; rw [hplain] <;> rfl) (Calls.evalArgs_plain ?_)
  exact thn hA fun us s2 ⟨vs, H2, I2, r2, q2⟩ => hm pins s2 σ H2 x vs v us Q I2 r1 r2 q2
/- xs.append(e), list.index on a module's tuple .. are MtR facts of 06m -/
end
end L2

namespace L2
open PySem PySem.Spec PyProof.Rows

noncomputable def MtM (X : Cx) (id : String) (r : V → List V → Hp → VK → Prop) : Prop :=
  ∀ (pins : List (Addr × Obj)) (s : Shared) (σ : St) (H : Hp) (x : V) (xs : List V) (v : Value) (us : List Value) (Q : VK), Inv X pins σ H s → RelV x v → Vals xs us → r x xs H Q →
    wpAny (model X.prog X.w) X.A (call (.builtin id) (v :: us)) (EP X pins σ Q) X.xe s

/-! ### lists of values -/
theorem Vals.one : ∀ {x : V} {us : List Value}, Vals [x] us → ∃ u, us = [u] ∧ RelV x u
  | _, _, .cons r .nil => ⟨_, rfl, r⟩
theorem Vals.two {x y : V} {us : List Value} (h : Vals [x, y] us) : ∃ u v, us = [u, v] ∧ RelV x u ∧ RelV y v := by
  cases h with
  | cons r t =>
  cases t with
  | cons q t =>
  cases t
  exact ⟨_, _, rfl, r, q⟩
theorem Vals.zero : ∀ {us : List Value}, Vals [] us → us = []
  | _, .nil => rfl
theorem Vals.dropLast {xs : List V} {us : List Value} (h : Vals xs us) : Vals xs.dropLast us.dropLast := by
  induction h with
  | nil => exact .nil
  | cons r t ih =>
    cases t with
    | nil => exact .nil
    | cons q t' => exact .cons r ih
theorem Vals.rep {xs : List V} {us : List Value} (h : Vals xs us) : ∀ k : Nat, Vals (List.replicate k xs).flatten (List.replicate k us).flatten
  | 0 => .nil
  | k + 1 => by
    rw [List.replicate_succ, List.replicate_succ, List.flatten_cons, List.flatten_cons]
    exact Vals.append h (Vals.rep h k)
theorem foldl_rep (its : List Value) : ∀ (k : Nat) (acc : List Value),
    List.foldl (fun x1 x2 => x1 ++ x2) acc.toArray (List.replicate k its.toArray) = (acc ++ (List.replicate k its).flatten).toArray
  | 0, acc => by simp
  | k + 1, acc => by
    have e : acc.toArray ++ its.toArray = (acc ++ its).toArray := by simp
    have e2 : (acc ++ its) ++ (List.replicate k its).flatten = acc ++ (List.replicate (k + 1) its).flatten := by
      rw [List.replicate_succ, List.flatten_cons, List.append_assoc]
    rw [← e2, ← foldl_rep its k (acc ++ its), ← e, List.replicate_succ, List.foldl_cons]

section
variable {X : Cx} {pins : List (Addr × Obj)} {σ : St} {H : Hp} {s : Shared} {l b : Addr} {xs ys zs : List V}

/-! ### the two steps: a tracked list is rewritten, a new list is laid -/
theorem Inv.lset {its its' : List Value} {n : Nat} {f : Array Value → Array Value} {t' : Nat} (I : Inv X pins σ H s) (hH : H l = some (.lst xs))
    (e : s.heap.get? l = some { cls := .type "list", data := .seq its.toArray n }) (hf : f its.toArray = its'.toArray) (hv : Vals ys its') (hz : ys.length ≤ sizeLine) :
    Inv X pins σ (upd H l (.lst ys)) { s with heap := s.heap.update l (Obj.mapSeq f), toks := t' } := by
  have q := PySem.IsL.update e f
  rw [hf] at q
  refine I.write (x := l) (e := l) (by rw [hH]; exact trivial) (.inl rfl) (fun b' u hb hu => (Heap.get?_update_other s.heap (Obj.mapSeq f) (Ne.symm hb)).trans hu) ⟨_, q⟩ ?_
  exact ⟨hz, its', _, hv, q⟩
theorem Inv.lnew {its : List Value} {t' : Nat} (I : Inv X pins σ H s) (hv : Vals ys its) (hz : ys.length ≤ sizeLine) :
    Inv X pins σ (upd H s.heap.objs.size (.lst ys)) { s with heap := s.heap.push { cls := .type "list", data := .seq its.toArray }, toks := t' } :=
  I.laid (fun _ _ q => Heap.get?_push_of_some _ q) (Nat.le_refl _) ⟨hz, its, 0, hv, Heap.get?_push_size _ rfl⟩
theorem Inv.fresh (I : Inv X pins σ H s) : H s.heap.objs.size = none := I.hok.fresh (Nat.le_refl _)
theorem Inv.lstM (I : Inv X pins σ H s) (hH : H l = some (.lst xs)) : xs.length ≤ sizeLine ∧ ∃ (its : List Value) (n : Nat), Vals xs its ∧ xs.length = its.length ∧ s.heap.get? l = some { cls := .type "list", data := .seq its.toArray n } := by
  obtain ⟨z, its, n, r, e⟩ := I.hok l _ hH
  exact ⟨z, its, n, r, r.length, e⟩

theorem notLongL {n : Nat} (h : n ≤ sizeLine) : Builtin.List.listTooLong n = false := by
  unfold Builtin.List.listTooLong
  exact decide_eq_false (by omega)
end

section
variable {X : Cx}

/-! ### methods -/
noncomputable def rAppend : V → List V → Hp → VK → Prop := fun x vs H Q => ∃ l xs y, x = .ref l ∧ vs = [y] ∧ H l = some (.lst xs) ∧ xs.length < sizeLine ∧ Q .non (upd H l (.lst (xs ++ [y])))
theorem mt_append : MtM X "list.append" rAppend := by
  intro pins s σ H x vs v us Q I rx rv h
  obtain ⟨l, xs, y, rfl, rfl, hH, hz, q⟩ := h
  cases rx
  obtain ⟨u, rfl, ru⟩ := rv.one
  obtain ⟨z, its, n, r, hl, e⟩ := I.lstM hH
  refine call_meets F.slot_list_append ⟨_, e, rfl⟩ F.entry_list_append (F.args_list_append_2 _ _) (PySem.list_append l its.toArray n u (by rw [List.size_toArray]; omega)) ⟨e, ?_⟩
  refine ⟨.non, _, I.lset (its' := its ++ [u]) hH e (by simp) (r.append (.cons ru .nil)) ?_, rfl, q⟩
  rw [List.length_append, List.length_singleton]
  omega

noncomputable def rExtend : V → List V → Hp → VK → Prop := fun x vs H Q => ∃ l b xs zs, x = .ref l ∧ vs = [.ref b] ∧ H l = some (.lst xs) ∧ H b = some (.lst zs) ∧ xs.length + zs.length ≤ sizeLine ∧ Q .non (upd H l (.lst (xs ++ zs)))
theorem mt_extend : MtM X "list.extend" rExtend := by
  intro pins s σ H x vs v us Q I rx rv h
  obtain ⟨l, b, xs, zs, rfl, rfl, hH, hB, hz, q⟩ := h
  cases rx
  obtain ⟨u, rfl, ru⟩ := rv.one
  cases ru
  obtain ⟨z, its, n, r, hl, e⟩ := I.lstM hH
  obtain ⟨z2, its2, n2, r2, hl2, e2⟩ := I.lstM hB
  have hsz : its.toArray.size + its2.toArray.size ≤ sizeLine := by rw [List.size_toArray, List.size_toArray]; omega
  have hlong : ¬ (!its.toArray.isEmpty && Builtin.List.listTooLong (its.toArray.size + its2.toArray.size)) = true := by
    rw [notLongL hsz, Bool.and_false]
    exact Bool.false_ne_true
  refine call_meets F.slot_list_extend ⟨_, e, rfl⟩ F.entry_list_extend (F.args_list_extend_2 _ _)
    (AutoSeq1.list_extend_list_list_0 l its.toArray n b its2.toArray n2 hlong (by rw [List.size_toArray]; omega) (by omega)) ⟨e, e2, ?_⟩
  refine ⟨.non, _, I.lset (its' := its ++ its2) hH e (by simp) (r.append r2) ?_, rfl, q⟩
  rw [List.length_append]
  omega





/-! ### list + list, list += list, list * int -/
noncomputable def rCat : R2 := fun x y H Q => ∃ l b xs zs, x = .ref l ∧ y = .ref b ∧ H l = some (.lst xs) ∧ H b = some (.lst zs) ∧ xs.length + zs.length ≤ sizeLine ∧ ∀ p, H p = none → Q (.ref p) (upd H p (.lst (xs ++ zs)))
theorem op_cat : OpR X (binaryOp .Add) rCat := by
  intro pins s σ H x y v u Q I rx ry h
  obtain ⟨l, b, xs, zs, rfl, rfl, hH, hB, hz, q⟩ := h
  cases rx
  cases ry
  obtain ⟨z, its, n, r, hl, e⟩ := I.lstM hH
  obtain ⟨z2, its2, n2, r2, hl2, e2⟩ := I.lstM hB
  refine PySem.P.add_list e e2 ?_ (by rw [List.size_toArray, List.size_toArray]; omega)
  have ea : its.toArray ++ its2.toArray = (its ++ its2).toArray := by simp
  rw [ea]
  exact ⟨.ref _, _, I.lnew (t' := s.toks) (r.append r2) (by rw [List.length_append]; omega), rfl, q _ I.fresh⟩
/-- a list times an int (a negative one is nothing) -/
noncomputable def rRep : R2 := fun x y H Q => ∃ l k xs, x = .ref l ∧ y = .int k ∧ H l = some (.lst xs) ∧ -(2 ^ 63) ≤ k ∧ k < 2 ^ 63 ∧ xs.length * k.toNat ≤ sizeLine ∧
  ∀ p, H p = none → Q (.ref p) (upd H p (.lst (List.replicate k.toNat xs).flatten))
theorem len_rep {α : Type} (xs : List α) (k : Nat) : (List.replicate k xs).flatten.length = k * xs.length := by
  induction k with
  | zero => simp
  | succ k ih => rw [List.replicate_succ, List.flatten_cons, List.length_append, ih, Nat.succ_mul, Nat.add_comm]
theorem op_rep : OpR X (binaryOp .Mult) rRep := by
  intro pins s σ H x y v u Q I rx ry h
  obtain ⟨l, k, xs, rfl, rfl, hH, h1, h2, hz, q⟩ := h
  cases rx
  obtain ⟨t, rfl⟩ := ry
  obtain ⟨z, its, n, r, hl, e⟩ := I.lstM hH
  have hlen : its.toArray.size * k.toNat ≤ sizeLine := by rw [List.size_toArray, ← hl]; exact hz
  have hcap : ¬ its.toArray.size * k.toNat > (2 ^ 63 - 1) / 8 := by
    have : (sizeLine : Nat) ≤ (2 ^ 63 - 1) / 8 := by decide
    omega
  have hfit : ¬ (!Builtin.List.listFitsIndex k) = true := by
    rw [fitsIndex_both h1 h2]
    exact Bool.false_ne_true
  have hlong : ¬ Builtin.List.listTooLong (its.toArray.size * k.toNat) = true := by
    rw [notLongL hlen]
    exact Bool.false_ne_true
  have hnew : List.foldl (fun x1 x2 => x1 ++ x2) #[] (List.replicate (if its.toArray.isEmpty = true then 0 else k.toNat) its.toArray) = (List.replicate k.toNat its).flatten.toArray := by
    have f0 : ∀ m : Nat, List.foldl (fun x1 x2 => x1 ++ x2) #[] (List.replicate m its.toArray) = (List.replicate m its).flatten.toArray := fun m => by
      have := foldl_rep its m []
      rw [List.nil_append] at this
      exact this
    rw [f0]
    cases its with
    | nil => simp
    | cons a r' => rw [if_neg (by simp)]
  refine wpAny_binaryOp_repeat_ref (T := "list") (U := "int") (by decide) ⟨_, e, rfl⟩ (fun s' => typeIs_int s' k t) noFill_list_mul F.fills_int_mul F.slot_int_rmul repeat_list F.slot_int_index.lookup
    (call_meets F.slot_int_rmul (typeIs_int s k t) F.entry_int_rmul (F.args_int_rmul_2 _ _) (int___rmul___int_list k t l its.toArray n)
      ⟨e, rfl, ⟨_, e, rfl⟩, call_meets F.slot_list_mul ⟨_, e, rfl⟩ F.entry_list_mul (F.args_list_mul_2 _ _) (AutoListH.list___mul___list_int_3 l its.toArray n k t hfit hcap hlong) ⟨e, ?_⟩⟩)
  rw [hnew]
  exact ⟨.ref _, _, I.lnew (t' := s.toks) (r.rep k.toNat) (by rw [len_rep, Nat.mul_comm]; exact hz), rfl, q _ I.fresh⟩

/-! ### del xs[i] -/
end

/-! ### xs[a:b] = ys -/
section
variable {prog : Program} {w : World} {A : Around} {E : Value → Shared → Prop} {s : Shared}
set_option maxRecDepth 100000 in
end

section
variable {X : Cx}
end
end L2

namespace Att
open PySem PySem.W PySem.Calls PyProof.Rows

/-! ### the script -/
theorem ints_of_wellAll {P : Params} {h : Heap} : ∀ (ns : List Int) (vs : List Value), WellAll P h vs (ns.map WData.int) → IntsAre vs ns := by
  intro ns
  induction ns with
  | nil =>
    intro vs w
    rw [List.map_nil] at w
    cases w
    exact .nil
  | cons n ns ih =>
    intro vs w
    rw [List.map_cons] at w
    cases w with
    | cons a b =>
      cases a
      exact .cons _ _ (ih _ b)

theorem script_of {l : OpenLaw} {n : Nat} (hn : l.most = some n) {P : Params} {h : Heap} {args : List WData} {vals : List Value}
    (hpre : l.row.toRowW.claim.pre args = true) (hwl : WellAll P h vals args) :
    ∃ a vs ns, vals = [Value.ref a] ∧ args = [WData.list (ns.map WData.int)] ∧ h.get? a = some { cls := .type "list", data := .seq vs.toArray } ∧ IntsAre vs ns ∧ ns.length ≤ n := by
  have hsh : WShape.hasAll [] args [.list .int] = true := (pre_splitW hpre).1
  have hc : l.pre.holds [] { args := args } = true := (pre_splitW hpre).2
  obtain ⟨d, r, rfl, h1, h2⟩ := hasAllW_cons hsh
  obtain rfl := hasAllW_nil h2
  obtain ⟨xs, rfl, h3⟩ := hasW_list h1
  obtain ⟨ns, rfl⟩ := items_int h3
  have hlen : ns.length ≤ n := by
    unfold OpenLaw.pre at hc
    have h4 : (WTm.not (.lt (.lit (.int (n : Int))) (.len (.arg 0)))).holds [] { args := [.list (ns.map .int)] } = true := by
      have h4 := (holds_andW hc).1
      rw [hn] at h4
      exact h4
    have h5 := condW_of h4 (w_not (w_lt w_lit (w_len_list (w_arg rfl))))
    rw [List.length_map] at h5
    refine Nat.le_of_not_lt fun q => ?_
    have q' : (n : Int) < ((ns.length : Nat) : Int) := by omega
    first
      | (rw [decide_eq_true q'] at h5; exact absurd h5 (by decide))
      | (simp at h5; omega)
  cases hwl with
  | cons w1 w2 =>
    cases w2
    cases w1 with
    | list ho hall => exact ⟨_, _, ns, rfl, rfl, ho, ints_of_wellAll ns _ hall, hlen⟩

theorem post_true (l : OpenLaw) (args : List WData) : l.row.toRowW.claim.post args (.bool true) args = true :=
  postW_of (r := l.row.toRowW) (X := (true == true))
    (show WShape.has [] (.bool true) .bool = true by first | rfl | decide | simp [WShape.has, WShape.arms, WShape.armsAll])
    (show (WTm.eq .res (.lit (.bool true))).value [] { args := args, res := some (.bool true), after := args } = some (.bool (true == true)) from w_eq_bool (w_res rfl) w_lit) rfl

/-! ### the attachment: holds_open's last premise (the goal 'hc' behind k_head) from a wpAny of the law's body -/

/-- the same from a codeAny of the CALL (for a layer whose function contracts speak of calls) -/
theorem attach_call {l : OpenLaw} {n : Nat} {q : Program} {loose : List Str} {XP : (Str → Option Value) → Heap → Prop} {YP : World → Heap → Prop} {d : DefRec}
    (hn : l.most = some n) (hdf : d.params.defaults = [])
    (call : ∀ (w : World) (s₀ s₁ : Shared) (mg mb : Str → Option Value) (fa : Addr) (o : Obj) (pm cd doc : Value) (a : Addr) (vs : List Value) (ns : List Int),
      Ground q loose [] XP w s₀ mg mb s₁.heap → YP w s₁.heap →
      s₁.heap.get? fa = some o → o.data = .func (docDef d.name d.params d.body d.scope pm cd doc) → s₁.heap.CodeRec cd d.name → mg d.name = some (.ref fa) →
      s₁.heap.get? a = some { cls := .type "list", data := .seq vs.toArray } → IntsAre vs ns → ns.length ≤ n → s₁.gens = #[] →
      codeAny (model l.prog w) callerA (.call (.ref fa) ⟨[.ref a], []⟩) (fun r s' => r = .ok (.ret (.bool true)) ∧ OldK s₁.heap s'.heap ∧ s'.os = s₁.os ∧ AllBare s'.gens) s₁) :
    WalkO q loose XP YP l.row.toRowW d [] (fun f vs => PySem.call f vs) := by
  intro w s₀ s₁ mg mb G Y fa o pm cd doc dV kV ho hd hcd hD hmg hg args vals as hpre hlay hrd hwl hlo
  obtain rfl : dV = .none := Dflts.none hD hdf
  obtain rfl : kV = .none := Dflts.noKw hD
  obtain ⟨a, vs, ns, rfl, rfl, hobj, hints, hlen⟩ := script_of hn hpre hwl
  refine enter_call (codeAny_mono (call w s₀ s₁ mg mb fa o pm cd doc a vs ns G Y ho (fd_plain hd) hcd hmg hobj hints hlen hg) fun r s' hq => ?_)
  obtain ⟨rfl, h2, h3, h4⟩ := hq
  exact ⟨.inl ⟨.bool true, .bool true, [], rfl, fun _ => rfl, .bool true, post_true l _, fun _ => ⟨List.Pairwise.nil, fun _ hm => (nomatch hm)⟩⟩, h2, h3, h4⟩


/-! ### rules over ANY heap (no ledger) from facts about the written part K: the library's own take a ledger (News) for what they write -/
section
variable {prog : Program} {w : World} {A : Around} {E : Value → Shared → Prop} {s : Shared} {K : Frag}





/-! the whole heap as the ledger: makes every rule that writes through a ledger a rule over any heap -/

end
end Att

namespace L2
open PySem PySem.Spec PyProof.Rows

theorem vals_ints : ∀ {vs : List Value} {ns : List Int}, IntsAre vs ns → Vals (ns.map V.int) vs
  | _, _, .nil => .nil
  | _, _, .cons n t h => .cons ⟨t, rfl⟩ (vals_ints h)

/-- nothing is tracked but the script, known to the object (or it is an object of the module) -/
noncomputable def Only (H : Hp) : Prop := ∀ b, H b = none ∨ ∃ o xs, H b = some (.frz o (.lst xs))

/-- THE HEAD: the law's promise, at the heap behind the top. F, the promise of the law's def, may use that base is part of the heap (so K.In base, base.Ns mainGlobals mg stand in Mod) -/
theorem law_call {P : Program} {w : World} {K : PySem.W.Frag} {mg mb : Str → Option Value} {CX : CXT} {k : Nat} {fa a : Addr} {fd : FuncData} {x : Str} {sp : Sp} {s₁ : Shared} {vs : List Value} {ns : List Int}
    (KX : K.In s₁.heap) (hns : s₁.heap.Ns mainGlobals mg) (hb : s₁.heap.Ns builtinsNs mb) (hbb : ∀ x : Str, x ≠ "__name__" → mb x = bootBuiltins x) (hlim : s₁.heap.NoLimit) (hg : s₁.gens = #[])
    (ha : s₁.heap.get? a = some { cls := .type "list", data := .seq vs.toArray }) (hi : IntsAre vs ns) (hl : ns.length ≤ sizeLine) (hr : Room k callerA)
    (F : ∀ base : Heap, K.In base → base.Ns mainGlobals mg → FnOk P w K mg base CX k fa fd [x] sp) (hbind : ∀ (s : Shared) (u : Value), BindsTo s fd ⟨[u], []⟩ [(x, u)])
    (hsp : ∀ H : Hp, Only H → SqL K H a (ns.map V.int) → sp [.ref a] H (fun v _ => v = .bl true) fun _ _ _ => False)
    (hCX : ∀ H e s', CX [] H s₁ (fun _ _ _ => False) e s' → False) :
    codeAny (model P w) callerA (.call (.ref fa) ⟨[.ref a], []⟩) (fun r s' => r = .ok (.ret (.bool true)) ∧ OldK s₁.heap s'.heap ∧ s'.os = s₁.os ∧ AllBare s'.gens) s₁ := by
  have rv := vals_ints hi
  have lenV := hi.length
  -- from an abstract heap in which nothing but the script may be tracked
  have core : ∀ H : Hp, Only H → SqL K H a (ns.map V.int) → HOk P w H s₁.heap → (∀ b, H b ≠ none → b = a) → (H a ≠ none → K.lookup a = none) →
      codeAny (model P w) callerA (.call (.ref fa) ⟨[.ref a], []⟩) (fun r s' => r = .ok (.ret (.bool true)) ∧ OldK s₁.heap s'.heap ∧ s'.os = s₁.os ∧ AllBare s'.gens) s₁ := by
    intro H hO hS hok hA hK
    have base_of : ∀ {b : Addr} {o : Obj}, s₁.heap.get? b = some o → H b = none → (hidT s₁.heap H).get? b = some o := fun e n => hidT_get e n
    have noA : ∀ {b : Addr} {o : Obj} {es : Array DictEntry} {ep : Nat}, s₁.heap.get? b = some o → o.data = .dict es ep → H b = none := fun {b o es ep} e d => by
      cases q : H b with
      | none => rfl
      | some u =>
        have e' : b = a := hA b (by rw [q]; simp)
        subst e'
        rw [ha] at e; cases e
        have d' : Data.seq vs.toArray _ = Data.dict es ep := d
        cases d'
    have nsK : ∀ {b : Addr} {m : Str → Option Value}, s₁.heap.Ns b m → (hidT s₁.heap H).Ns b m := fun {b m} ⟨o, es, ep, e, d, r⟩ => ⟨o, es, ep, base_of e (noA e d), d, r⟩
    have hKb : K.In (hidT s₁.heap H) := fun b o e => base_of (KX b o e) (by
      cases q : H b with
      | none => rfl
      | some u =>
        have e' : b = a := hA b (by rw [q]; simp)
        subst e'
        rw [hK (by rw [q]; simp)] at e; cases e)
    have hM : Mod K mg (hidT s₁.heap H) := ⟨hKb, nsK hns, ⟨mb, nsK hb, hbb⟩, let ⟨mc, h1, h2⟩ := hlim; ⟨mc, nsK h1, h2⟩⟩
    have e0 : Env0 P w K mg (hidT s₁.heap H) callerA [] s₁ H := ⟨rfl, hM, fun b o e => of_hidT e, Nat.le_of_eq (hidT_size _ _), trivial, fun b hb => absurd (show b ∈ ([] : List Addr) from hb) (by simp), hok, .of_eq hg⟩
    refine codeAny_mono ((F _ hKb (nsK hns)).run callerA [] s₁ H ⟨[.ref a], []⟩ [.ref a] [.ref a] _ _ hr e0 (hbind s₁ (.ref a)) (.cons rfl .nil) (hsp H hO hS)) fun r s' h => ?_
    cases r with
    | error e => exact (hCX H e s' h).elim
    | ok fl =>
      cases fl with
      | next => exact False.elim h
      | brk => exact False.elim h
      | cont => exact False.elim h
      | ret u =>
        obtain ⟨v, H', os, bare, un, hok', r', q⟩ := h
        have q' : v = .bl true := q
        subst q'
        obtain rfl : u = Value.bool true := r'
        refine ⟨rfl, OldK.of_keep fun b o e => ?_, os, bare⟩
        cases q : H b with
        | none => exact un.keep b o e q (by intro z; exact absurd (show b ∈ ([] : List Addr) from z) (by simp)) (by simp)
        | some u =>
          rcases hO b with z | ⟨ob, xs, z⟩
          · rw [q] at z; cases z
          · have z2 := un.frzs b ob _ z
            obtain ⟨e1, _⟩ := hok b _ z
            obtain ⟨e2, _⟩ := hok' b _ z2
            rw [e] at e1; cases e1
            exact e2
  cases hk : K.lookup a with
  | some o =>
    -- the script is one of the module's own objects
    have e := KX a o hk
    rw [ha] at e
    cases e
    refine core (fun _ => none) (fun _ => .inl rfl) (.inr ⟨_, vs.toArray, _, hk, rfl, rfl, rfl, by rw [List.size_toArray, lenV]; exact hl, by simpa using rv⟩) (fun b u z => by have z' : (none : Option HO) = some u := z; cases z') (fun b z => absurd rfl z) fun z => absurd rfl z
  | none =>
    refine core (fun b => if b = a then some (.frz { cls := .type "list", data := .seq vs.toArray } (.lst (ns.map V.int))) else none) (fun b => ?_) (.inl (.inr ⟨{ cls := .type "list", data := .seq vs.toArray }, if_pos rfl⟩)) (fun b u z => ?_) (fun b z => ?_) fun _ => hk
    · by_cases hb : b = a
      · exact .inr ⟨_, _, if_pos hb⟩
      · exact .inl (if_neg hb)
    · by_cases hb : b = a
      · have z' := (if_pos hb).symm.trans z
        cases z'
        subst hb
        exact ⟨ha, by rw [List.length_map]; exact hl, vs, _, rv, ha⟩
      · have z' := (if_neg hb).symm.trans z
        cases z'
    · by_cases hb : b = a
      · exact hb
      · exact absurd (if_neg hb) z
end L2

namespace L2
open PySem PySem.Spec PyProof.Rows

noncomputable abbrev KOf {K : PySem.W.Frag} {h : Heap} (_ : K.In h) : PySem.W.Frag := K

/-- the goal that k_head leaves (case hc), from the law's promise. F gives the function object fd (K's own) once, then the promise over every base -/
theorem walk_of {l : PySem.W.OpenLaw} {n k : Nat} {q : Program} {loose : List Str} {XP : (Str → Option Value) → Heap → Prop} {YP : World → Heap → Prop} {d : DefRec} {K : Params → PySem.W.Frag} {CX : World → CXT} {sp : World → Sp} {x : Str}
    (hn : l.most = some n) (hn2 : n ≤ sizeLine) (hdf : d.params.defaults = []) (hr : Room k callerA)
    (hY : ∀ (w : World) (h : Heap), YP w h → (K w.params).In h)
    (F : ∀ (w : World) (mg : Str → Option Value) (fa : Addr) (h : Heap), (K w.params).In h → h.Ns mainGlobals mg → mg d.name = some (.ref fa) →
      ∃ fd : FuncData, (∀ (s : Shared) (u : Value), BindsTo s fd ⟨[u], []⟩ [(x, u)]) ∧
        ∀ base : Heap, (K w.params).In base → base.Ns mainGlobals mg → FnOk l.prog w (K w.params) mg base (CX w) k fa fd [x] (sp w))
    (hsp : ∀ (w : World) (H : Hp) (a : Addr) (ns : List Int), ns.length ≤ n → Only H → SqL (K w.params) H a (ns.map V.int) → sp w [.ref a] H (fun v _ => v = .bl true) fun _ _ _ => False)
    (hCX : ∀ (w : World) (H : Hp) (s : Shared) (e : Value) (s' : Shared), CX w [] H s (fun _ _ _ => False) e s' → False) :
    PySem.W.WalkO q loose XP YP l.row.toRowW d [] (fun f vs => PySem.call f vs) := by
  refine Att.attach_call hn hdf fun w s₀ s₁ mg mb fa o pm cd doc a vs ns G Y ho hd hcd hmg hobj hints hlen hg => ?_
  have KX := hY w _ Y
  obtain ⟨fd, hb, hF⟩ := F w mg fa _ KX G.T.g hmg
  exact law_call KX G.T.g G.T.b G.T.builtins G.T.nolimit hg hobj hints (Nat.le_trans hlen hn2) hr hF hb (fun H hO hS => hsp w H a ns hlen hO hS) fun H e s' => hCX w H s₁ e s'
end L2

/- THE LAST THEOREM (shape; LID, My.* are yours):
   My.Adr: a structure of the addresses that your layer names (classes, functions); My.Txt K t: a structure (Prop) of the equations over K;
   My.txt_mk : {K} {implicit addresses ..} (e1 : nsIn K mainGlobals "law" = some (some (.ref f))) (e2 : K.lookup f = some ⟨oc, od, .func (fnOf "law" "law" params body scope dV kV doc pm an cdv ct), sl⟩) (e3 : codeIn K cdv "law" = true) .. : ∃ t, My.Txt K t

set_option maxRecDepth 100000 in
set_option maxHeartbeats 0 in
theorem PySem.Challenge.cw_LID_holds : PySem.Challenge.rw_LID.Holds := by
  w_on; o_law; k_head; (case hw => w_witness2)
  k_fill
  refine L2.walk_of (l := PySem.Challenge.rw_LID) (n := 63) (k := 40) (x := "script") (CX := fun w => ..) (sp := fun _ => My.sp_law) rfl (by decide) rfl ⟨rfl, by decide, by decide⟩ (fun w h Y => PySem.W.kIn_of Y) ?F ?S ?C
  case F =>
    intro w mg fa h KX G hmg
    have T : ∃ t, My.Txt (L2.KOf KX) t := by
      dsimp only [L2.KOf]                          -- K must stand as «<heap const> w.params» for k_is
      refine' My.txt_mk ?e1 ?e2 ?e3 ..
      (case e1 => PySem.W.k_is)                    -- in the order: a name -> its address -> its object -> its parts
      (case e2 => PySem.W.k_is)
      ..
    obtain ⟨t, T⟩ := T
    have e0 := hmg.symm.trans (PySem.W.mg_of KX G T.law)
    cases e0                                       -- fa is the law's own address
    exact ⟨_, fun s u => .of_eq rfl, fun base kb nb => My.law_fn T kb nb⟩     -- if «.of_eq rfl» comes too early: refine' ⟨_, ?b, fun base kb nb => My.law_fn T kb nb⟩; exact fun s u => .of_eq rfl
  case S => exact fun w H a ns hl hO hS => ..
  case C => exact ..
(the tactic k_is has no namespace: write k_is) -/

/-! SHORT WORDS over the layer: a def of the text, its body, what a loop and a test want. -/
namespace L2
open PySem PySem.Spec PyProof.Rows

/-! ### the text by places -/
noncomputable def defArgs (s : Stmt) : Arguments := match s with
  | .FunctionDef _ a _ _ _ _ _ _ _ _ => a
  | _ => { posonlyargs := [], args := [], vararg := none, kwonlyargs := [], kw_defaults := [], kwarg := none, defaults := [] }
noncomputable def defBody (s : Stmt) : List Stmt := match s with
  | .FunctionDef _ _ b _ _ _ _ _ _ _ => b
  | _ => []
noncomputable def defScope (s : Stmt) : Scope := match s with
  | .FunctionDef _ _ _ _ _ _ sc _ _ _ => sc
  | _ => { kind := .function, names := [], isGenerator := false, isCoroutine := false }

/-! ### no exception leaves a def -/
noncomputable abbrev CX0 : CXT := fun _ _ _ _ _ _ => False
noncomputable abbrev E0 : XK := fun _ _ _ => False
theorem pass0 {X : Cx} : Passes CX0 X E0 := fun _ _ _ _ _ _ _ h => h.elim

/-! ### a def (or method) of the text as it stands behind the top -/
structure Fun (K : PySem.W.Frag) (x qual : Str) (st : Stmt) (f : Addr) (fd : FuncData) : Prop where
  ex : ∃ (oc : Value) (od : Option Addr) (kV doc pm : Value) (an : Option Addr) (cdv ct : Value) (osl : Array (Option Value)),
    fd = PySem.W.fnOf x qual (defArgs st) (defBody st) (defScope st) .none kV doc pm an cdv ct ∧ K.lookup f = some ⟨oc, od, .func fd, osl⟩ ∧ PySem.W.codeIn K cdv qual = true
  kp : PySem.W.keepIn K (.ref f) = true
section
variable {P : Program} {w : World} {K : PySem.W.Frag} {mg : Str → Option Value} {base : Heap}
/-- THE RULE for a def: its body as a term of rules, and the reading of that term -/
theorem Fun.ok {x qual : Str} {st : Stmt} {f : Addr} {fd : FuncData} {N ps : List Str} {k : Nat} {sp : Sp} (F : Fun K x qual st f fd) (S : FnScope N ps (defScope st)) (len : ∀ vs H Q E, sp vs H Q E → vs.length = ps.length)
    (hbody : ∀ (cdv : Value) (A : Around) (outer : List Env) (s : Shared) (H : Hp) (vs : List V) (Q : VK) (E : XK), Room k (A.deeper (envOfC qual (defScope st) s.heap.objs.size f cdv)) → sp vs H Q E →
      ∃ t, PSs (cxOf CX0 P w K mg base N qual (defScope st) f cdv A outer s H E).nox (defBody st) t ∧ t { nx := fun _ H' => Q .non H', rt := Q } (start N vs) H) : FnOk P w K mg base CX0 (k + 1) f fd ps sp := by
  obtain ⟨oc, od, kV, doc, pm, an, cdv, ct, osl, rfl, lk, hcd⟩ := F.ex
  refine fn_of lk hcd S len fun A outer s H vs Q E hr hsp => ?_
  obtain ⟨t, h, q⟩ := hbody cdv A outer s H vs Q E hr hsp
  exact ⟨t, h.nox, q⟩
/-- how its arguments bind (no defaults): h is «fun _ _ _ _ _ _ us hl => match us, hl with | [_, _], _ => rfl», one _ a parameter -/
theorem Fun.binds {x qual : Str} {st : Stmt} {f : Addr} {fd : FuncData} {ps : List Str} (F : Fun K x qual st f fd)
    (h : ∀ (kV doc pm : Value) (an : Option Addr) (cdv ct : Value) (us : List Value), us.length = ps.length → bindArgs (PySem.W.fnOf x qual (defArgs st) (defBody st) (defScope st) .none kV doc pm an cdv ct) ⟨us, []⟩ = pure (ps.zip us)) : Binds K fd ps [] := by
  obtain ⟨oc, od, kV, doc, pm, an, cdv, ct, osl, rfl, lk, hcd⟩ := F.ex
  exact .all (h kV doc pm an cdv ct)
theorem fun_mk {x qual : Str} {st : Stmt} {f : Addr} {oc : Value} {od an : Option Addr} {osl : Array (Option Value)} {kV doc pm cdv ct : Value} (l : K.lookup f = some ⟨oc, od, .func (PySem.W.fnOf x qual (defArgs st) (defBody st) (defScope st) .none kV doc pm an cdv ct), osl⟩)
    (c : PySem.W.codeIn K cdv qual = true) (k : PySem.W.keepIn K (.ref f) = true) : Fun K x qual st f (PySem.W.fnOf x qual (defArgs st) (defBody st) (defScope st) .none kV doc pm an cdv ct) := ⟨⟨oc, od, kV, doc, pm, an, cdv, ct, osl, rfl, l, c⟩, k⟩
end
theorem small1000 {n : Nat} (h : n ≤ 1000) : n < sizeLine := Nat.lt_of_le_of_lt h (by decide)

/-! ### expressions in short: the name that stands in the i-th slot -/
section
variable {X : Cx}
theorem pv (i : Nat) {x : Str} {pos : Pos} (hN : X.N[i]? = some x := by rfl) (hv : Vis X.env.scope x := by first | exact Or.inl rfl | exact Or.inr (Or.inl rfl) | exact Or.inr (Or.inr rfl)) (hd : (x == ("__debug__" : Str)) = false := by decide)
    (hcd : (x == ("__classdict__" : Str)) = false := by decide) : PE X (.Name x pos) (tVar i) := pe_var hN hv hd hcd
end

/-! ### tests -/
theorem iteF {A B : Prop} (h : B) : if false = true then A else B := by
  rw [if_neg Bool.false_ne_true]
  exact h
theorem iteT {A B : Prop} (h : A) : if true = true then A else B := by
  rw [if_pos rfl]
  exact h

/-! ### heaps -/
/-- all that was tracked is as it was -/
noncomputable def Same (H H' : Hp) : Prop := ∀ b o, H b = some o → H' b = some o
theorem Same.refl (H : Hp) : Same H H := fun _ _ h => h
theorem Same.trans {H H1 H2 : Hp} (a : Same H H1) (b : Same H1 H2) : Same H H2 := fun c o h => b c o (a c o h)
theorem Same.free {H H' : Hp} (e : Same H H') {l : Addr} (h : H' l = Option.none) : H l = Option.none := by
  cases q : H l with
  | none => rfl
  | some o =>
    rw [e l o q] at h
    cases h
theorem Same.seq {K : PySem.W.Frag} {H H' : Hp} {a : Addr} {xs : List V} (e : Same H H') (h : SqL K H a xs) : SqL K H' a xs := by
  rcases h with (h | ⟨o, h⟩) | h
  · exact .inl (.inl (e _ _ h))
  · exact .inl (.inr ⟨o, e _ _ h⟩)
  · exact .inr h

end L2

set_option Elab.async false
set_option linter.all false
set_option maxRecDepth 100000
namespace L2
open PySem PySem.Spec PyProof.Rows

/-! ### the cells that a comprehension's block takes from its frame -/
noncomputable def closL (env : Env) : List (Str × NameKind) → List (Str × Addr) → List (Str × Addr)
  | [], cs => cs
  | (n, k) :: r, cs => closL env r (if k == .free then (match env.cells.lookup n with | some a => (n, a) :: cs | none => cs) else cs)
/-- the names of a block: none is a cell of its own, each free one is a cell or free in the frame -/
noncomputable def FrOk (env : Env) : List (Str × NameKind) → Prop
  | [] => True
  | (n, k) :: r => (match k with | .free => (env.kindOf n = some .cell ∨ env.kindOf n = some .free) | .cell => False | _ => True) ∧ FrOk env r
theorem FrOk.free {env : Env} : ∀ {ns : List (Str × NameKind)} {n : Str}, FrOk env ns → (n, NameKind.free) ∈ ns → env.kindOf n = some .cell ∨ env.kindOf n = some .free
  | [], _, _, h => by cases h
  | (m, k) :: r, n, f, h => by
    obtain ⟨a, b⟩ := f
    rcases List.mem_cons.mp h with e | e
    · cases e; exact a
    · exact b.free e
theorem FrOk.nocell {env : Env} : ∀ {ns : List (Str × NameKind)}, FrOk env ns → ∀ y ∈ ns, y.2 ≠ .cell
  | [], _, _, h => by cases h
  | (m, k) :: r, f, y, h => by
    obtain ⟨a, b⟩ := f
    rcases List.mem_cons.mp h with e | e
    · subst e
      intro e
      have e' : k = .cell := e
      subst e'
      exact a
    · exact b.nocell y e
theorem closure_go {env : Env} : ∀ (ns : List (Str × NameKind)) (cs : List (Str × Addr)), (∀ n, (n, NameKind.free) ∈ ns → ∃ a, env.cells.lookup n = some a) →
    (forIn (m := Sem) ns cs fun x r => match x with | (name, kind) => (if (kind == NameKind.free) = true then (do let a ← cellOf env name; pure (ForInStep.yield ((name, a) :: r))) else pure (ForInStep.yield r))) = pure (closL env ns cs)
  | [], cs, _ => rfl
  | (n, k) :: r, cs, h => by
    rw [List.forIn_cons]
    cases hk : (k == NameKind.free) with
    | false =>
      simp only [hk, Bool.false_eq_true, if_false]
      rw [pure_bind]
      show forIn (m := Sem) r cs _ = pure (closL env r (if (k == NameKind.free) = true then _ else cs))
      rw [hk]
      exact closure_go r cs fun n hn => h n (List.mem_cons_of_mem _ hn)
    | true =>
      have ek : k = .free := by simpa using hk
      subst ek
      obtain ⟨a, ha⟩ := h n List.mem_cons_self
      simp only [hk, if_true]
      unfold cellOf
      rw [ha]
      simp only [pure_bind]
      show forIn (m := Sem) r ((n, a) :: cs) _ = pure (closL env r (if (NameKind.free == NameKind.free) = true then (match env.cells.lookup n with | some a => (n, a) :: cs | none => cs) else cs))
      rw [hk, if_pos rfl, ha]
      exact closure_go r _ fun n hn => h n (List.mem_cons_of_mem _ hn)
theorem closure_eq {env : Env} {sc : Scope} (h : ∀ n, (n, NameKind.free) ∈ sc.names → ∃ a, env.cells.lookup n = some a) : closureFor sc env = pure (closL env sc.names []) := by
  unfold closureFor
  exact (congrArg (fun z => z >>= fun r => pure r) (closure_go sc.names [] h)).trans (by simp)
theorem closL_sub {env : Env} : ∀ {ns : List (Str × NameKind)} {cs : List (Str × Addr)}, (∀ x c, cs.lookup x = some c → env.cells.lookup x = some c) → ∀ x c, (closL env ns cs).lookup x = some c → env.cells.lookup x = some c
  | [], _, h, x, c, e => h x c e
  | (n, k) :: r, cs, h, x, c, e => by
    refine closL_sub (ns := r) (fun y d q => ?_) x c e
    by_cases hk : (k == NameKind.free) = true
    · rw [if_pos hk] at q
      cases hn : env.cells.lookup n with
      | none => rw [hn] at q; exact h y d q
      | some a =>
        rw [hn] at q
        simp only [List.lookup_cons] at q
        cases hy : (y == n) with
        | true =>
          rw [hy] at q
          have : y = n := by simpa using hy
          subst this
          rw [hn]; exact q
        | false => rw [hy] at q; exact h y d q
    · rw [if_neg hk] at q; exact h y d q
theorem closL_has {env : Env} : ∀ {ns : List (Str × NameKind)} {cs : List (Str × Addr)} {x : Str}, ((∃ c, cs.lookup x = some c) ∨ ((x, NameKind.free) ∈ ns ∧ ∃ a, env.cells.lookup x = some a)) → ∃ c, (closL env ns cs).lookup x = some c
  | [], cs, x, h => by
    rcases h with h | ⟨h, _⟩
    · exact h
    · cases h
  | (n, k) :: r, cs, x, h => by
    refine closL_has (ns := r) ?_
    rcases h with ⟨c, h⟩ | ⟨h, a, ha⟩
    · left
      by_cases hk : (k == NameKind.free) = true
      · rw [if_pos hk]
        cases hn : env.cells.lookup n with
        | none => exact ⟨c, h⟩
        | some a =>
          simp only [List.lookup_cons]
          cases hy : (x == n) with
          | true => exact ⟨a, rfl⟩
          | false => exact ⟨c, h⟩
      · rw [if_neg hk]; exact ⟨c, h⟩
    · rcases List.mem_cons.mp h with e | e
      · left
        cases e
        rw [if_pos (by rfl), ha]
        exact ⟨a, by simp⟩
      · exact .inr ⟨e, a, ha⟩
theorem lookup_mem {α : Type} : ∀ {ns : List (Str × α)} {x : Str} {k : α}, ns.lookup x = some k → (x, k) ∈ ns
  | [], _, _, h => by cases h
  | (n, j) :: r, x, k, h => by
    simp only [List.lookup_cons] at h
    cases hx : (x == n) with
    | true =>
      rw [hx] at h
      cases h
      have : x = n := by simpa using hx
      subst this
      exact List.mem_cons_self
    | false => rw [hx] at h; exact List.mem_cons_of_mem _ (lookup_mem h)
noncomputable def rlb (env : Env) (p : Str × NameKind) : Str × NameKind := if (p.2 == NameKind.free && env.scope.kind == .function && env.kindOf p.1 == some .cell) then (p.1, NameKind.cell) else (p.1, p.2)
theorem rlb_fst (env : Env) (p : Str × NameKind) : (rlb env p).1 = p.1 := by
  unfold rlb
  split <;> rfl
theorem rlb_free (env : Env) (n : Str) : (rlb env (n, .free)).2 = .cell ∨ (rlb env (n, .free)).2 = .free := by
  unfold rlb
  split
  · exact .inl rfl
  · exact .inr rfl
theorem rlb_back (env : Env) (p : Str × NameKind) (hn : p.2 ≠ .cell) (h : (rlb env p).2 = .cell ∨ (rlb env p).2 = .free) : p.2 = .free := by
  unfold rlb at h
  split at h
  · rename_i hc
    have h1 := (Bool.and_eq_true _ _).mp hc
    have h2 := (Bool.and_eq_true _ _).mp h1.1
    simpa using h2.1
  · rcases h with h | h
    · exact absurd h hn
    · exact h
theorem lookup_consP {α : Type} (x : Str) (p : Str × α) (r : List (Str × α)) : (p :: r).lookup x = if (x == p.1) = true then some p.2 else r.lookup x := by
  obtain ⟨n, k⟩ := p
  rw [List.lookup_cons]
  cases (x == n) <;> rfl
theorem relabel_free {env : Env} : ∀ {names : List (Str × NameKind)} {x : Str}, names.lookup x = some .free → (names.map (rlb env)).lookup x = some .cell ∨ (names.map (rlb env)).lookup x = some .free
  | [], _, h => by cases h
  | (n, k) :: r, x, h => by
    have ih := @relabel_free env r x
    rw [List.map_cons, lookup_consP, rlb_fst]
    rw [lookup_consP] at h
    by_cases hx : (x == n) = true
    · rw [if_pos hx] at h ⊢
      cases h
      rcases rlb_free env n with e | e
      · exact .inl (congrArg some e)
      · exact .inr (congrArg some e)
    · rw [if_neg hx] at h ⊢
      exact ih h
theorem relabel_back {env : Env} : ∀ {names : List (Str × NameKind)} {x : Str}, (∀ y ∈ names, y.2 ≠ .cell) → ((names.map (rlb env)).lookup x = some .cell ∨ (names.map (rlb env)).lookup x = some .free) → (x, NameKind.free) ∈ names
  | [], _, _, h => by rcases h with h | h <;> cases h
  | (n, k) :: r, x, hn, h => by
    have ih := @relabel_back env r x (fun y hy => hn y (List.mem_cons_of_mem _ hy))
    rw [List.map_cons, lookup_consP, rlb_fst] at h
    by_cases hx : (x == n) = true
    · rw [if_pos hx] at h
      have ex : x = n := by simpa using hx
      subst ex
      have e := rlb_back env (x, k) (hn _ List.mem_cons_self) (h.imp Option.some.inj Option.some.inj)
      have e' : k = .free := e
      subst e'
      exact List.mem_cons_self
    · rw [if_neg hx] at h
      exact List.mem_cons_of_mem _ (ih h)

/-! ### a block's context -/
noncomputable def blk (X : Cx) (sc : Scope) (M : List Str) (C : Addr) (fp : List Addr) (s : Shared) (H : Hp) : Cx :=
  { X with N := M, s₀ := s, H₀ := H, env := compEnvC sc (closL X.env sc.names []) C X.env, outer := X.stack, stack := X.stack, ex := fp, fn := fun _ => false, pn := [], xe := fun _ _ => False }
/-- which slots of the block are slots of the frame -/
inductive FmOk (N : List Str) (sc : Scope) : List Str → List (Option Nat) → Prop
  | nil : FmOk N sc [] []
  | own {x M fm} : FmOk N sc M fm → FmOk N sc (x :: M) (none :: fm)
  | free {x M fm} (j : Nat) : N[j]? = some x → sc.names.lookup x = some .free → FmOk N sc M fm → FmOk N sc (x :: M) (some j :: fm)
noncomputable def fmSt (fm : List (Option Nat)) (σ : St) : St := fm.map fun o => match o with | none => none | some j => (σ[j]?).join
theorem FmOk.len {N : List Str} {sc : Scope} : ∀ {M : List Str} {fm : List (Option Nat)}, FmOk N sc M fm → fm.length = M.length
  | _, _, .nil => rfl
  | _, _, .own h => by simp [h.len]
  | _, _, .free _ _ _ h => by simp [h.len]
theorem FmOk.get {N : List Str} {sc : Scope} {σ : St} : ∀ {M : List Str} {fm : List (Option Nat)} {i : Nat} {x : Str} {v : V}, FmOk N sc M fm → M[i]? = some x → (fmSt fm σ)[i]? = some (some v) → ∃ (j : Nat), N[j]? = some x ∧ sc.names.lookup x = some .free ∧ σ[j]? = some (some v)
  | _, _, i, x, v, .nil, e, _ => by simp at e
  | _, _, 0, x, v, .own h, e, q => by simp [fmSt] at q
  | _, _, 0, x, v, .free j a b h, e, q => by
    simp at e
    subst e
    refine ⟨j, a, b, ?_⟩
    have q' : (σ[j]?).join = some v := by simpa [fmSt] using q
    cases hs : σ[j]? with
    | none => rw [hs] at q'; cases q'
    | some o =>
      rw [hs] at q'
      have : o = some v := q'
      rw [this]
  | _, _, i + 1, x, v, .own h, e, q => h.get (i := i) (by simpa using e) (by simpa [fmSt] using q)
  | _, _, i + 1, x, v, .free j a b h, e, q => h.get (i := i) (by simpa using e) (by simpa [fmSt] using q)

section
variable {X : Cx} {pins : List (Addr × Obj)} {σ : St} {H : Hp} {s : Shared} {sc : Scope} {M : List Str} {C : Addr} {fp : List Addr}
theorem blk_ok (I : Inv X pins σ H s) (hf : ∀ b ∈ fp, FpOk X pins H b) (hl : ∀ b ∈ fp, b < s.heap.objs.size) (hC : s.heap.objs.size ≤ C) (fr : FrOk X.env sc.names) (hk : sc.kind = .function) : (blk X sc M C fp s H).Ok where
  mod := I.ok.mod
  kind := hk
  glob := I.ok.glob
  blt := I.ok.blt
  above := hC
  inj := fun x y c e1 e2 => I.ok.inj x y c (closL_sub (fun _ _ z => by cases z) x c e1) (closL_sub (fun _ _ z => by cases z) y c e2)
  has := fun x h => by
    have hm : (x, NameKind.free) ∈ sc.names := relabel_back (env := X.env) fr.nocell h
    exact closL_has (.inr ⟨hm, I.ok.has x (fr.free hm)⟩)
  cab := fun x c h _ => by cases h
  hd := I.ok.hd
  frames := I.ok.frames
  stk := .inl rfl
  exf := fun b hb => ⟨Nat.ne_of_lt (Nat.lt_of_lt_of_le (hl b hb) hC), fun x c e => (hf b hb).2.2.2.2.1 x c (closL_sub (fun _ _ z => by cases z) x c e)⟩
  bs := I.bs
  bsz := Nat.le_trans I.ok.bsz I.sz
  noex := fun b o e hb => by
    rcases (hf b hb).2.2.2.1 with z | z
    · exact I.ok.noex b o e z
    · exact absurd (Nat.lt_of_lt_of_le (Heap.lt_size (I.ok.bs b o e).1) z) (Nat.lt_irrefl _)
  exfs := fun b hb hs => by
    rcases List.mem_cons.mp (I.stkSub b hs) with e | e
    · exact (hf b hb).2.1 e
    · exact (hf b hb).2.2.1 e
  funs := I.stack
  frf := I.stkFree
theorem blk_in {h₁ : Heap} {t : Nat} {pl : List (Addr × Obj)} {m : Str → Option Value} {fm : List (Option Nat)} (I : Inv X pins σ H s) (hf : ∀ b ∈ fp, FpOk X pins H b) (hl : ∀ b ∈ fp, b < s.heap.objs.size) (hC : s.heap.objs.size ≤ C) (fr : FrOk X.env sc.names) (hk : sc.kind = .function)
    (hfm : FmOk X.N sc M fm) (k : ∀ b o, s.heap.get? b = some o → h₁.get? b = some o) (hn : h₁.Ns C m)
    (hp : ∀ p ∈ pl, h₁.get? p.1 = some p.2 ∧ H p.1 = none ∧ p.1 ≠ C ∧ p.1 ∉ frs X.stack ∧ ∀ v, p.2.data ≠ .cell v) : Inv (blk X sc M C fp s H) pl (fmSt fm σ) H { s with heap := h₁, toks := t } where
  ok := blk_ok I hf hl hC fr hk
  os := rfl
  bare := I.bare
  base := Un.kept k
  loc := ⟨m, hn, fun i x v e1 e2 e3 => by
    obtain ⟨j, a, b, c⟩ := hfm.get e1 e2
    obtain ⟨m', hn', hl'⟩ := I.loc
    have hm := lookup_mem b
    have hk' := fr.free hm
    have vis : Vis X.env.scope x := by
      rcases hk' with z | z
      · exact .inr (.inl z)
      · exact .inr (.inr z)
    obtain ⟨u, r, l⟩ := hl' j x v a c vis
    refine ⟨u, r, .inr ⟨relabel_free b, ?_⟩⟩
    rcases l with ⟨z, _⟩ | ⟨_, cc, hcc, hcell⟩
    · rcases hk' with y | y <;> (rw [z] at y; cases y)
    · obtain ⟨c2, e2⟩ := closL_has (env := X.env) (ns := sc.names) (cs := []) (x := x) (.inr ⟨hm, cc, hcc⟩)
      have e3 := closL_sub (fun _ _ z => by cases z) x c2 e2
      rw [hcc] at e3
      cases e3
      refine ⟨cc, e2, ?_⟩
      obtain ⟨o, ho, hd⟩ := hcell
      exact ⟨o, k _ _ ho, hd⟩⟩
  cell := fun x c e => by
    obtain ⟨v, o, ho, hd⟩ := I.cell x c (closL_sub (fun _ _ z => by cases z) x c e)
    exact ⟨v, o, k _ _ ho, hd⟩
  free := I.hok.fresh hC
  freeC := fun x c e => I.freeC x c (closL_sub (fun _ _ z => by cases z) x c e)
  pin := fun p hp' => by
    have hp' : p ∈ pl := by simpa [blk] using hp'
    exact hp p hp'
  hok := I.hok.kept k
  len := by simp [fmSt, hfm.len, blk]
end
end L2

set_option Elab.async false
set_option linter.all false
set_option maxRecDepth 100000
namespace L2
open PySem PySem.Spec PyProof.Rows
/-- one clause's turn, any target -/
theorem compLoop_any {prog : Program} {w : World} {A : Around} {R : Result → Shared → Prop} {s : Shared} {elt target iter : Expr} {ifs : List Expr} {scope : Scope} {pos : Pos} {it acc : Value} {env : Env} (I : Nat → Shared → Prop)
    (turn : ∀ n s, I n s → wpAny (model prog w) A (pyNext it) (fun r s₁ => match r with
      | none => R (.ok .next) s₁
      | some v => wpAny (model prog w) A (letOwnedTupleGo target it v) (fun _ s₁' => wpAny (model prog w) A (assign target env v) (fun _ s₂ =>
          wpAny (model prog w) A (forIn ifs true fun c r => if r = true then do let ok ← isTrue c env (eval c env); pure (ForInStep.yield ok) else pure (ForInStep.yield r)) (fun ok s₃ =>
            if ok = true then wpAny (model prog w) A (eval elt env) (fun x s₄ =>
              wpAny (model prog w) A (call (.builtin "list.append") [acc, x]) (fun _ s₅ => ∃ m, m < n ∧ I m s₅) (fun _ _ => False) s₄) (fun _ _ => False) s₃
            else ∃ m, m < n ∧ I m s₃) (fun _ _ => False) s₂) (fun _ _ => False) s₁') (fun _ _ => False) s₁) (fun _ _ => False) s)
    (n : Nat) (h : I n s) :
    codeAny (model prog w) A (.compLoop (.ListComp elt [⟨target, iter, ifs, 0⟩] scope pos) 0 it acc env) R s := by
  refine codeAny_loop rfl I (fun n s hI => ?_) n h
  show wpAny _ A ((compTurn (.ListComp elt [⟨target, iter, ifs, 0⟩] scope pos) 0 it acc env).onRaise (fun x => do noteFrame x env; theTreesLotGoes x)) _ _ s
  refine wpAny_noted ?_
  rw [compTurn_list]
  refine wpAny_bind (wpAny_standAt (wpAny_bind (wpAny_mono (turn n s hI) (fun r s₁ h₁ => ?_) fun _ _ h' => h'.elim)))
  cases r with
  | none => exact wpAny_pure h₁
  | some v =>
    refine wpAny_bind (wpAny_mono h₁ (fun _ s₁' h₁' => ?_) fun _ _ h' => h'.elim)
    refine wpAny_bind (wpAny_mono h₁' (fun _ s₂ h₂ => wpAny_bind (wpAny_mono h₂ (fun ok s₃ h₃ => ?_) fun _ _ h' => h'.elim)) fun _ _ h' => h'.elim)
    cases ok with
    | false => exact wpAny_pure ⟨rfl, h₃⟩
    | true =>
      exact wpAny_bind (wpAny_bind (wpAny_mono h₃ (fun x s₄ h₄ => wpAny_bind (wpAny_mono h₄ (fun _ s₅ h₅ => wpAny_pure (wpAny_pure ⟨rfl, h₅⟩)) fun _ _ h' => h'.elim)) fun _ _ h' => h'.elim))

/-- a clause's tests -/
noncomputable def PIf (X : Cx) (ifs : List Expr) (t : TT) : Prop :=
  ∀ (pins : List (Addr × Obj)) (s : Shared) (σ : St) (H : Hp) (Q : Bool → Hp → Prop), Inv X pins σ H s → t σ H Q →
    wpAny (model X.prog X.w) X.A (forIn ifs true fun c r => if r = true then do let ok ← isTrue c X.env (eval c X.env); pure (ForInStep.yield ok) else pure (ForInStep.yield r)) (TP X pins σ Q) X.xe s
noncomputable def tYes : TT := fun _ H Q => Q true H
theorem pif_nil {X : Cx} : PIf X [] tYes := fun pins s σ H Q I h => wpAny_tests_nil ⟨H, I, h⟩
theorem pif_one {X : Cx} {c : Expr} {t : TT} (h : PT X c t) : PIf X [c] t := fun pins s σ H Q I hw => wpAny_tests_one (h pins s σ H Q I hw)

/-- a target stores into the block's own slots alone -/
noncomputable def GK (fm : List (Option Nat)) (g : TG) : Prop := ∀ (x : V) (σ : St) (H : Hp) (Q : St → Hp → Prop), g x σ H Q → g x σ H fun σ' H' => Q σ' H' ∧ ∀ (i j : Nat), fm[i]? = some (some j) → σ'[i]? = σ[i]?
noncomputable def GKs (fm : List (Option Nat)) (g : TGs) : Prop := ∀ (xs : List V) (σ : St) (H : Hp) (Q : St → Hp → Prop), g xs σ H Q → g xs σ H fun σ' H' => Q σ' H' ∧ ∀ (i j : Nat), fm[i]? = some (some j) → σ'[i]? = σ[i]?
theorem gk_name {fm : List (Option Nat)} {i : Nat} (h : fm[i]? = some none) : GK fm (gName i) := fun x σ H Q q => ⟨q, fun i' j e => by
  by_cases hi : i = i'
  · subst hi; rw [h] at e; cases e
  · exact List.getElem?_set_ne hi⟩
theorem gks_nil {fm : List (Option Nat)} : GKs fm gNil := fun xs σ H Q ⟨e, q⟩ => ⟨e, q, fun _ _ _ => rfl⟩
/-- the targets that are met: names, tuples of names -/
theorem gks_cons {fm : List (Option Nat)} {i : Nat} {u : TGs} (h : fm[i]? = some none) (h2 : GKs fm u) : GKs fm (gCons (gName i) u) := fun xs σ H Q ⟨v, r, e, q⟩ => ⟨v, r, e, by
  have q2 := h2 r (σ.set i (some v)) H Q q
  have mono : ∀ (σ0 σ1 : St), σ1 = σ0.set i (some v) → (u r σ1 H fun σ' H' => Q σ' H' ∧ ∀ (i j : Nat), fm[i]? = some (some j) → σ'[i]? = σ1[i]?) = (u r σ1 H fun σ' H' => Q σ' H' ∧ ∀ (i j : Nat), fm[i]? = some (some j) → σ'[i]? = σ0[i]?) := fun σ0 σ1 e1 => by
    subst e1
    congr 1
    funext σ' H'
    apply propext
    constructor
    · rintro ⟨a, b⟩
      refine ⟨a, fun i' j e => (b i' j e).trans ?_⟩
      by_cases hi : i = i'
      · subst hi; rw [h] at e; cases e
      · exact List.getElem?_set_ne hi
    · rintro ⟨a, b⟩
      refine ⟨a, fun i' j e => (b i' j e).trans ?_⟩
      by_cases hi : i = i'
      · subst hi; rw [h] at e; cases e
      · exact (List.getElem?_set_ne hi).symm
  show u r (σ.set i (some v)) H _
  rw [← mono σ _ rfl]
  exact q2⟩
theorem gk_tup {K : PySem.W.Frag} {fm : List (Option Nat)} {n : Nat} {t : TGs} (h : GKs fm t) : GK fm (gTup K n t) := fun x σ H Q ⟨a, xs, e, q, l, r⟩ => ⟨a, xs, e, q, l, h xs σ H Q r⟩
theorem fm_slot {fm : List (Option Nat)} {σ : St} {i : Nat} {v : V} (e : (fmSt fm σ)[i]? = some (some v)) : ∃ j, fm[i]? = some (some j) := by
  unfold fmSt at e
  rw [List.getElem?_map] at e
  cases h : fm[i]? with
  | none => rw [h] at e; cases e
  | some o =>
    cases o with
    | none => rw [h] at e; cases e
    | some j => exact ⟨j, rfl⟩

/-- what a list comprehension asks: W is the word between two turns (turn, measure, the items so far, the heap) -/
noncomputable def tLC (wi : TI) (fm : List (Option Nat)) (g : TG) (tt : TT) (te : TE) : TE := fun σ H Q => wi σ H fun J H1 => ∃ W : Nat → Nat → List V → Hp → Prop, (∃ m, W 0 m [] H1) ∧ ∀ i m ys H, W i m ys H →
  (J.stop i H ∧ ∀ p, H p = none → Q (.ref p) (upd H p (.lst ys))) ∨
  (J.go i H ∧ ys.length < sizeLine ∧ ∃ N : List V → Hp → Prop, (∀ ys' H', N ys' H' → ∃ m', m' < m ∧ W (i + 1) m' ys' H') ∧
    ∀ x H', J.yld i H x H' → g x (fmSt fm σ) H' fun σ2 H2 => tt σ2 H2 fun ok H3 => if ok = true then te σ2 H3 fun v H4 => N (ys ++ [v]) H4 else N ys H3)

section
variable {X : Cx} {pins : List (Addr × Obj)} {σ : St} {sc : Scope} {M : List Str} {fm : List (Option Nat)} {tg iter elt : Expr} {ifs : List Expr} {pos : Pos} {g : TG} {tt : TT} {te : TE}
/-- a block: from the iterator to the list, at the end of its turns -/
theorem comp_core {it : Addr} {fp : List Addr} {tn : Nat → Heap → Prop} {J : It} {H2 : Hp} {s2 : Shared} {E : Value → Shared → Prop} {RR : Value → Addr → Result → Shared → Prop} {Q : VK} (hc : X.calm = true)
    (I2 : Inv X pins σ H2 s2) (T : Turn X.prog X.w X.K tg J fp it tn) (st : tn 0 s2.heap) (hf : ∀ b ∈ fp, FpOk X pins H2 b) (fr : FrOk X.env sc.names) (hk : sc.kind = .function) (hfm : FmOk X.N sc M fm) (hgk : GK fm g)
    (hB : ∀ C fp s H, PG (blk X sc M C fp s H) tg g ∧ PIf (blk X sc M C fp s H) ifs tt ∧ PE (blk X sc M C fp s H) elt te)
    (W : Nat → Nat → List V → Hp → Prop) (hw : ∃ m, W 0 m [] H2)
    (turn : ∀ i m ys H, W i m ys H → (J.stop i H ∧ ∀ p, H p = none → Q (.ref p) (upd H p (.lst ys))) ∨
      (J.go i H ∧ ys.length < sizeLine ∧ ∃ N : List V → Hp → Prop, (∀ ys' H', N ys' H' → ∃ m', m' < m ∧ W (i + 1) m' ys' H') ∧
        ∀ x H', J.yld i H x H' → g x (fmSt fm σ) H' fun σ2 H2 => tt σ2 H2 fun ok H3 => if ok = true then te σ2 H3 fun v H4 => N (ys ++ [v]) H4 else N ys H3))
    (hRR : ∀ D C H' m s', s'.heap.Ns C m → Inv X pins σ H' s' → FpOk X pins H' C → Q (.ref D) H' → RR (.ref D) C (.ok .next) s') :
    wpAny (model X.prog X.w) X.A (newList []) (fun acc s₃ => wpAny (model X.prog X.w) X.A (newFunctionEnv sc X.env.globals (closL X.env sc.names []) [] X.env.qual none .none (some X.env)) (fun cenv s₄ =>
      codeAny (model X.prog X.w) X.A (.compStart (.ListComp elt [⟨tg, iter, ifs, 0⟩] sc pos) 0 (.ref it) acc { cenv with scope := relabel sc X.env }) (RR acc cenv.locals) s₄) E s₃) E s2 := by
  have hl : ∀ b ∈ fp, b < s2.heap.objs.size := fun b hb => by
    obtain ⟨o, e, _⟩ := T.obj _ _ st b hb
    exact Heap.lt_size e
  refine wpAny_newObj_type (wpAny_newFunctionEnv fr.nocell (by intro y hy; simp at hy) (fun h₁ hns₁ hsb₁ => ?_) hk)
  dsimp only at hns₁ hsb₁ ⊢
  generalize hH2 : s2.heap.push { cls := .type "list", dict := none, data := .seq ([] : List Value).toArray } = G2 at hns₁ hsb₁ ⊢
  have hC : G2.objs.size = s2.heap.objs.size + 1 := by rw [← hH2, Heap.size_push]
  have hCle : s2.heap.objs.size ≤ G2.objs.size := by rw [hC]; exact Nat.le_succ _
  have hDC : s2.heap.objs.size ≠ G2.objs.size := by rw [hC]; exact Nat.ne_of_lt (Nat.lt_succ_self _)
  have below : ∀ b, b < s2.heap.objs.size → b ≠ G2.objs.size := fun b hb => Nat.ne_of_lt (Nat.lt_of_lt_of_le hb hCle)
  have old : ∀ b o, s2.heap.get? b = some o → h₁.get? b = some o := fun b o e => hsb₁.extBut b o (below b (Heap.lt_size e)) (Heap.get?_push_of_some _ (hH2 ▸ Heap.get?_push_of_some _ e))
  have hacc : h₁.PlainList s2.heap.objs.size #[] := ⟨_, hsb₁.extBut _ _ hDC (Heap.get?_push_of_some _ (hH2 ▸ Heap.get?_push_size _ rfl))⟩
  have hst₁ : tn 0 h₁ := T.keep _ _ _ st fun b _ o e => old b o e
  obtain ⟨B1, B2, B3⟩ := hB G2.objs.size fp s2 H2
  have hDfs : s2.heap.objs.size ∉ frs X.stack := fun hb => by
    rcases List.mem_cons.mp (I2.stkSub _ hb) with e | e
    · exact absurd I2.lt (by rw [← e]; exact Nat.lt_irrefl _)
    · exact I2.nofs (Nat.le_refl _) e
  have hDf : s2.heap.objs.size ∉ fp := fun hb => Nat.lt_irrefl _ (hl _ hb)
  -- the iterator's records, in the block
  have fpB : ∀ {pl : List (Addr × Obj)} {H' : Hp}, (∀ b ∈ fp, H' b = none) → (∀ p ∈ pl, p.1 ∉ fp) → ∀ b ∈ fp, FpOk (blk X sc M G2.objs.size fp s2 H2) pl H' b := fun {pl H'} hn hp b hb => by
    refine ⟨hn b hb, below b (hl b hb), fun z => ?_, .inl hb, fun x c e => (hf b hb).2.2.2.2.1 x c (closL_sub (fun _ _ z => by cases z) x c e), fun p hp' z => ?_⟩
    · rcases List.mem_cons.mp (I2.stkSub b z) with e | e
      · exact (hf b hb).2.1 e
      · exact (hf b hb).2.2.1 e
    · have hp'' : p ∈ pl := by simpa [blk] using hp'
      exact hp p hp'' (z ▸ hb)
  have loop : ∀ s₃ : Shared, s₃ = { s2 with heap := h₁, toks := s2.toks + ([] : List (Str × Value)).length } →
      codeAny (model X.prog X.w) X.A (.compLoop (.ListComp elt [⟨tg, iter, ifs, 0⟩] sc pos) 0 (.ref it) (.ref s2.heap.objs.size) (compEnvC sc (closL X.env sc.names []) G2.objs.size X.env)) (RR (.ref s2.heap.objs.size) G2.objs.size) s₃ := by
    rintro s₃ rfl
    obtain ⟨m0, w0⟩ := hw
    -- the state between two turns
    refine compLoop_any (fun n s' => ∃ (i : Nat) (ys : List V) (its : List Value) (k : Nat) (H' : Hp), Inv (blk X sc M G2.objs.size fp s2 H2) [(s2.heap.objs.size, { cls := .type "list", data := .seq its.toArray k })] (fmSt fm σ) H' s' ∧ Vals ys its ∧ ys.length ≤ sizeLine ∧
      tn i s'.heap ∧ (∀ b ∈ fp, H' b = none) ∧ W i n ys H') ?_ m0 ?_
    · rintro n s' ⟨i, ys, its, k, H', I', rv, hz, st', fn', w'⟩
      have np : ∀ p ∈ [((s2.heap.objs.size, { cls := .type "list", data := .seq its.toArray k }) : Addr × Obj)], p.1 ∉ fp := fun p hp => by
        rcases List.mem_singleton.mp hp with rfl
        exact hDf
      rcases turn i n ys H' w' with ⟨stop, qn⟩ | ⟨go, hz', N, hN, step⟩
      · refine thn (T.done (blk X sc M G2.objs.size fp s2 H2) rfl rfl rfl hc i _ s' _ H' _ I' (fpB fn' np) st' stop) fun r s4 ⟨hr, I4⟩ => ?_
        subst hr
        -- the end: the list is tracked, the frame's invariant again
        obtain ⟨eD, nD, _, _, _⟩ := I4.pin _ (List.mem_append_right _ List.mem_cons_self)
        obtain ⟨m4, hn4, _⟩ := I4.loc
        have u4 : Un (frs X.stack) fp H2 H' s2.heap s4.heap := I4.base
        have eD' : s4.heap.get? s2.heap.objs.size = some { cls := .type "list", data := .seq its.toArray k } := eD
        have nD' : H' s2.heap.objs.size = none := nD
        have ne : ∀ b, b < s2.heap.objs.size → b ≠ s2.heap.objs.size := fun b hb => Nat.ne_of_lt hb
        have hok : HOk X.prog X.w (upd H' s2.heap.objs.size (.lst ys)) s4.heap := fun b ob e => by
          by_cases hb : b = s2.heap.objs.size
          · subst hb
            rw [upd_same] at e
            cases e
            exact ⟨hz, its, k, rv, eD'⟩
          · rw [upd_ne hb] at e
            exact (I4.hok b ob e).stay (fun _ _ _ q => q) (fun c q => by rw [upd_ne (ne_of_none q nD')]; exact q) fun c xs q => by rw [upd_ne (ne_of_none q nD')]; exact q
        have u5 : Un (frs X.stack) fp H2 (upd H' s2.heap.objs.size (.lst ys)) s2.heap s4.heap :=
          ⟨u4.keep, u4.slot, fun b o e n hx => by rw [upd_ne (ne b (Heap.lt_size e))]; exact u4.free b o e n hx, u4.there,
            fun b xs e => by have := u4.tups b xs e; rw [upd_ne (ne_of_none this nD')]; exact this,
            fun b o u e => by have := u4.frzs b o u e; rw [upd_ne (ne_of_none this nD')]; exact this,
            fun b ps e => by obtain ⟨mo, this⟩ := u4.tbls b ps e; exact ⟨mo, by rw [upd_ne (ne_of_none this nD')]; exact this⟩⟩
        have I5 : Inv X pins σ (upd H' s2.heap.objs.size (.lst ys)) s4 :=
          I2.call' I4.os u5 hok I4.bare fun b hb => ⟨(hf b hb).2.2.2.1, (hf b hb).2.1, (hf b hb).2.2.2.2.1, (hf b hb).2.2.2.2.2⟩
        refine hRR _ _ _ m4 s4 hn4 I5 (I2.fpOk hCle ?_) (qn _ nD')
        rw [upd_ne (Ne.symm hDC)]
        exact I4.free
      · refine thn (T.item (blk X sc M G2.objs.size fp s2 H2) rfl rfl rfl hc i _ s' _ H' _ I' (fpB fn' np) st' go) fun r s4 ⟨u, hr, h4⟩ => ?_
        subst hr
        refine thn h4 fun _ s5 ⟨x, H5, I5, r5, y5, st5, fr5⟩ => ?_
        have I5' := I5.pinned (fpB fr5 np) (T.obj _ _ st5)
        refine thn (B1 _ s5 _ H5 x u _ I5' r5 (hgk _ _ _ _ (step x H5 y5))) fun _ s6 ⟨σ6, H6, I6, q6, k6⟩ => ?_
        refine thn (B2 _ s6 σ6 H6 _ I6 q6) fun ok s7 ⟨H7, I7, q7⟩ => ?_
        have len6 : (fmSt fm σ).length = σ6.length := I'.len.trans I6.len.symm
        have wk : ∀ (j : Nat) (v : V), (fmSt fm σ)[j]? = some (some v) → σ6[j]? = some (some v) := fun j v e => by
          obtain ⟨j', e'⟩ := fm_slot e
          rw [k6 j j' e']
          exact e
        have back : ∀ {σ8 : St} {H8 : Hp} {s8 : Shared}, Inv (blk X sc M G2.objs.size fp s2 H2) ([(s2.heap.objs.size, { cls := .type "list", data := .seq its.toArray k })] ++ pinsAt fp s5.heap) σ8 H8 s8 → tn (i + 1) s8.heap ∧ ∀ b ∈ fp, H8 b = none := fun {σ8 H8 s8} I8 => by
          refine ⟨T.keep _ _ _ st5 fun b hb o e => (I8.pin (b, o) (List.mem_append_right _ (List.mem_append_right _ (mem_pinsAt hb e)))).1, fun b hb => ?_⟩
          obtain ⟨o, e, d⟩ := T.obj _ _ st5 b hb
          exact (I8.pin (b, o) (List.mem_append_right _ (List.mem_append_right _ (mem_pinsAt hb e)))).2.1
        cases ok with
        | false =>
          rw [if_neg Bool.false_ne_true] at q7
          rw [if_neg Bool.false_ne_true]
          obtain ⟨m', hm, w7⟩ := hN ys H7 q7
          exact ⟨m', hm, i + 1, ys, its, k, H7, (I7.weak len6 wk).unpinned, rv, hz, (back I7).1, (back I7).2, w7⟩
        | true =>
          rw [if_pos rfl] at q7
          rw [if_pos rfl]
          refine thn (B3 _ s7 σ6 H7 _ I7 q7) fun y s8 ⟨v, H8, I8, r8, q8⟩ => ?_
          obtain ⟨st8, fr8⟩ := back I8
          obtain ⟨m', hm, w8⟩ := hN _ H8 q8
          obtain ⟨eD, nD, _, _, _⟩ := I8.pin _ (List.mem_append_right _ (List.mem_append_left _ List.mem_cons_self))
          have hits : its.toArray.size = ys.length := by simp [rv.length]
          refine wpAny_list_append_plain (items := its.toArray) ⟨k, eD⟩ (fun h' hpl hsb => ?_) (by rw [hits]; exact hz)
          obtain ⟨k', ek⟩ := hpl
          have ek' : h'.get? s2.heap.objs.size = some { cls := .type "list", data := .seq (its ++ [y]).toArray k' } := by simpa using ek
          have np8 : ∀ p ∈ pinsAt fp s5.heap, p.1 ≠ s2.heap.objs.size := fun p hp z => hDf (z ▸ (of_pinsAt hp).1)
          have I9 : Inv (blk X sc M G2.objs.size fp s2 H2) (pinsAt fp s5.heap) σ6 H8 s8 := I8.pins_of fun p hp => I8.pin p (List.mem_append_right _ (List.mem_append_right _ hp))
          have I10 : Inv (blk X sc M G2.objs.size fp s2 H2) (pinsAt fp s5.heap) σ6 H8 { s8 with heap := h', toks := s8.toks } :=
            I9.turned (it := s2.heap.objs.size) (fun b o hb e => hsb.extBut b o hb e) nD hDC (.inr (Nat.le_refl _)) (fun x c e z => by
              obtain ⟨v', q⟩ := I2.cell x c (closL_sub (fun _ _ z => by cases z) x c e)
              exact absurd (show c < s2.heap.objs.size from q.lt) (by rw [z]; exact Nat.lt_irrefl _)) fun p hp => np8 p (by simpa [blk] using hp)
          have I11 : Inv (blk X sc M G2.objs.size fp s2 H2) [(s2.heap.objs.size, { cls := .type "list", data := .seq (its ++ [y]).toArray k' })] (fmSt fm σ) H8 { s8 with heap := h', toks := s8.toks } :=
            (I10.weak len6 wk).pins_of fun p hp => by
              rcases List.mem_singleton.mp hp with rfl
              exact ⟨ek', nD, hDC, hDfs, fun _ z => nomatch z⟩
          refine ⟨m', hm, i + 1, ys ++ [v], its ++ [y], k', H8, I11, rv.append (.cons r8 .nil), ?_, ?_, fr8, w8⟩
          · rw [List.length_append]; exact hz'
          · exact T.keep _ _ _ st8 fun b hb o e => hsb.extBut b o (fun z => hDf (z ▸ hb)) e
    · obtain ⟨k0, e0⟩ := hacc
      refine ⟨0, [], [], k0, H2, blk_in I2 hf hl hCle fr hk hfm old hns₁ fun p hp => ?_, .nil, Nat.zero_le _, hst₁, fun b hb => (hf b hb).1, w0⟩
      rcases List.mem_singleton.mp hp with rfl
      exact ⟨e0, I2.hok.fresh (Nat.le_refl _), hDC, hDfs, fun _ z => nomatch z⟩
  exact codeAny_compStart_list (loop _ rfl) (T.self _ 0 _ _ _ hst₁ (loop _ rfl))
end
end L2

set_option Elab.async false
set_option linter.all false
set_option maxRecDepth 100000
namespace L2
open PySem PySem.Spec PyProof.Rows
section
variable {X : Cx} {sc : Scope} {M : List Str} {fm : List (Option Nat)} {tg iter elt : Expr} {ifs : List Expr} {pos : Pos} {g : TG} {tt : TT} {te : TE} {wi : TI}
/-- the block's record lets its names go: nothing that is known changes -/
theorem Inv.letGo {pins : List (Addr × Obj)} {σ : St} {H : Hp} {s : Shared} {C : Addr} {h' : Heap} (I : Inv X pins σ H s) (f : FpOk X pins H C) (hs : Heap.SameBut C s.heap h') : Inv X pins σ H { s with heap := h' } :=
  I.turned (t' := s.toks) (it := C) (fun b o hb e => hs.extBut b o hb e) f.1 f.2.1 f.2.2.2.1 f.2.2.2.2.1 f.2.2.2.2.2
theorem pe_lc (hc : X.calm = true) (fr : FrOk X.env sc.names) (hfm : FmOk X.N sc M fm) (hgk : GK fm g) (hk : sc.kind = .function) (hnm : ∀ y ∈ sc.names, y.2 = .local → sc.names.lookup y.1 = some .local) (hi : PI X tg iter wi)
    (hB : ∀ C fp s H, PG (blk X sc M C fp s H) tg g ∧ PIf (blk X sc M C fp s H) ifs tt ∧ PE (blk X sc M C fp s H) elt te) (hs : ∀ x, foldedSetIterable iter X.env x = pure x := by intro _; rfl) :
    PE X (.ListComp elt [⟨tg, iter, ifs, 0⟩] sc pos) (tLC wi fm g tt te) := by
  intro pins s σ H Q I h
  rw [eval_ListComp]
  have hclos := closure_eq (env := X.env) (sc := sc) fun n hn => I.ok.has n (fr.free hn)
  refine wpAny_comprehension_free (use := none) rfl hs hclos hk hnm (thn (hi pins s σ H _ I h) fun v s1 h1 => thn h1 fun itv s2 h2 => ?_)
  obtain ⟨it, fp, tn, J, H2, e, I2, T, st2, f2, W, w0, turn⟩ := h2
  subst e
  refine comp_core (Q := Q) (RR := fun acc C => compPost (model X.prog X.w) X.A X.xe none (EP X pins σ Q) acc C) hc I2 T st2 f2 fr hk hfm hgk hB W w0 turn ?_
  intro D C H' m s' hn I' f' q
  exact ⟨m, hn, fun h' hs' => ⟨.ref D, H', I'.letGo f' hs', rfl, q⟩⟩
/-- x = [..] where the store is exchanged with the block's end -/
theorem ps_set_lc {i : Nat} {x : Str} {px pst : Pos} (hN : X.N.Nodup) (hix : X.N[i]? = some x) (hx : X.env.kindOf x = some .local) (hsw : swapsWith (.ListComp elt [⟨tg, iter, ifs, 0⟩] sc pos) (some (.Name x px)) pst.line X.env = pure true)
    (hc : X.calm = true) (fr : FrOk X.env sc.names) (hfm : FmOk X.N sc M fm) (hgk : GK fm g) (hk : sc.kind = .function) (hnm : ∀ y ∈ sc.names, y.2 = .local → sc.names.lookup y.1 = some .local) (hi : PI X tg iter wi)
    (hB : ∀ C fp s H, PG (blk X sc M C fp s H) tg g ∧ PIf (blk X sc M C fp s H) ifs tt ∧ PE (blk X sc M C fp s H) elt te) (hs : ∀ x, foldedSetIterable iter X.env x = pure x := by intro _; rfl) :
    PS X (.Assign [.Name x px] (.ListComp elt [⟨tg, iter, ifs, 0⟩] sc pos) pst) (tAsg (tLC wi fm g tt te) (gName i)) := by
  intro pins s σ H D I h
  rw [exec_Assign_Name_used _ _ _ _ hsw]
  refine wpAny_bind (wpAny_standAt (wpAny_bind ?_))
  show wpAny _ _ (do let _ ← comprehension (.ListComp elt [⟨tg, iter, ifs, 0⟩] sc pos) sc X.env _ (newList []) false (eval iter X.env) (some (assign (.Name x px) X.env))) _ _ s
  have hclos := closure_eq (env := X.env) (sc := sc) fun n hn => I.ok.has n (fr.free hn)
  refine wpAny_bind (wpAny_mono (wpAny_comprehension_free (use := some (assign (.Name x px) X.env)) (Q := fun _ s' => SP X pins D .next s') rfl hs hclos hk hnm (thn (hi pins s σ H _ I h) fun v s1 h1 => thn h1 fun itv s2 h2 => ?_))
    (fun _ s' hq => wpAny_pure (wpAny_pure hq)) fun _ _ e => e)
  obtain ⟨it, fp, tn, J, H2, e, I2, T, st2, f2, W, w0, turn⟩ := h2
  subst e
  refine comp_core (Q := fun v H' => gName i v σ H' D.nx) (RR := fun acc C => compPost (model X.prog X.w) X.A X.xe (some (assign (.Name x px) X.env)) (fun _ s' => SP X pins D .next s') acc C) hc I2 T st2 f2 fr hk hfm hgk hB W w0 turn ?_
  intro Da C H' m s' hn I' f' q
  show wpAny _ _ (assign (.Name x px) X.env (.ref Da)) _ _ s'
  refine wpAny_assign_Name (store_ok2 (v := .ref Da) I' hN hix (.inl hx) rfl (fun s2 I2' hs2 => ?_) (.inr hx))
  obtain ⟨a, hsb, ha⟩ := hs2
  have hCa : C ≠ a := by
    rcases ha with rfl | ha
    · exact f'.2.1
    · exact (f'.2.2.2.2.1 x a ha).symm
  exact ⟨m, hn.sameBut hsb hCa, fun h' hs' => ⟨_, H', I2'.letGo f' hs', q⟩⟩
end
end L2

set_option Elab.async false
set_option linter.all false
set_option maxRecDepth 100000
namespace L2
open PySem PySem.Spec PyProof.Rows
/-! ### a value as data -/
mutual
inductive Is (H : Hp) : V → PyData → Prop
  | non : Is H .non .none
  | bl (b : Bool) : Is H (.bl b) (.bool b)
  | int (i : Int) : Is H (.int i) (.int i)
  | str (x : Str) : Is H (.str x) (.str x)
  | tup {a : Addr} {xs : List V} {ds : List PyData} : H a = some (.tup xs) → IsAll H xs ds → Is H (.ref a) (.tuple ds)
  | lst {a : Addr} {xs : List V} {ds : List PyData} : Rd H a (.lst xs) → IsAll H xs ds → Is H (.ref a) (.list ds)
inductive IsAll (H : Hp) : List V → List PyData → Prop
  | nil : IsAll H [] []
  | cons {v : V} {d : PyData} {vs : List V} {ds : List PyData} : Is H v d → IsAll H vs ds → IsAll H (v :: vs) (d :: ds)
end
theorem IsAll.length {H : Hp} : ∀ {vs : List V} {ds : List PyData}, IsAll H vs ds → vs.length = ds.length
  | _, _, .nil => rfl
  | _, _, .cons _ t => by simp [t.length]
theorem IsAll.get {H : Hp} : ∀ {vs : List V} {ds : List PyData} {i : Nat} {d : PyData}, IsAll H vs ds → ds[i]? = some d → ∃ v, vs[i]? = some v ∧ Is H v d
  | _, _, _, _, .nil, e => by simp at e
  | _, _, 0, _, .cons h t, e => by simp at e; subst e; exact ⟨_, rfl, h⟩
  | _, _, i + 1, d, .cons h t, e => by
    obtain ⟨v, a, b⟩ := t.get (i := i) (d := d) (by simpa using e)
    exact ⟨v, by simpa using a, b⟩
theorem IsAll.get' {H : Hp} : ∀ {vs : List V} {ds : List PyData} {i : Nat} {v : V}, IsAll H vs ds → vs[i]? = some v → ∃ d, ds[i]? = some d ∧ Is H v d
  | _, _, _, _, .nil, e => by simp at e
  | _, _, 0, _, .cons h t, e => by simp at e; subst e; exact ⟨_, rfl, h⟩
  | _, _, i + 1, d, .cons h t, e => by
    obtain ⟨v, a, b⟩ := t.get' (i := i) (v := d) (by simpa using e)
    exact ⟨v, by simpa using a, b⟩
theorem IsAll.append {H : Hp} : ∀ {vs : List V} {ds : List PyData} {us : List V} {es : List PyData}, IsAll H vs ds → IsAll H us es → IsAll H (vs ++ us) (ds ++ es)
  | _, _, _, _, .nil, s => s
  | _, _, _, _, .cons h t, s => .cons h (t.append s)
theorem IsAll.take {H : Hp} : ∀ {vs : List V} {ds : List PyData} (n : Nat), IsAll H vs ds → IsAll H (vs.take n) (ds.take n)
  | _, _, 0, _ => .nil
  | _, _, _ + 1, .nil => .nil
  | _, _, n + 1, .cons h t => .cons h (t.take n)
theorem IsAll.drop {H : Hp} : ∀ {vs : List V} {ds : List PyData} (n : Nat), IsAll H vs ds → IsAll H (vs.drop n) (ds.drop n)
  | _, _, 0, h => h
  | _, _, _ + 1, .nil => .nil
  | _, _, n + 1, .cons h t => t.drop n
theorem IsAll.ints {H : Hp} : ∀ ns : List Int, IsAll H (ns.map V.int) (ns.map PyData.int)
  | [] => .nil
  | n :: ns => .cons (.int n) (IsAll.ints ns)
theorem IsAll.of_ints {H : Hp} : ∀ {vs : List V} {ns : List Int}, IsAll H vs (ns.map PyData.int) → vs = ns.map V.int
  | _, [], h => by cases h; rfl
  | _, n :: ns, h => by
    rw [List.map_cons] at h
    cases h with
    | cons h1 t =>
    cases h1
    rw [List.map_cons, t.of_ints]
mutual
theorem Is.mono {H H' : Hp} (ht : ∀ a xs, H a = some (.tup xs) → H' a = some (.tup xs)) (hl : ∀ a xs, Rd H a (.lst xs) → Rd H' a (.lst xs)) : ∀ {v : V} {d : PyData}, Is H v d → Is H' v d
  | _, _, .non => .non
  | _, _, .bl b => .bl b
  | _, _, .int i => .int i
  | _, _, .str x => .str x
  | _, _, .tup e h => .tup (ht _ _ e) (IsAll.mono ht hl h)
  | _, _, .lst e h => .lst (hl _ _ e) (IsAll.mono ht hl h)
theorem IsAll.mono {H H' : Hp} (ht : ∀ a xs, H a = some (.tup xs) → H' a = some (.tup xs)) (hl : ∀ a xs, Rd H a (.lst xs) → Rd H' a (.lst xs)) : ∀ {vs : List V} {ds : List PyData}, IsAll H vs ds → IsAll H' vs ds
  | _, _, .nil => .nil
  | _, _, .cons h t => .cons (Is.mono ht hl h) (IsAll.mono ht hl t)
end
/-! no list within -/
mutual
noncomputable def noL : PyData → Bool
  | .none | .bool _ | .int _ | .str _ => true
  | .tuple xs => noLs xs
  | .list _ | .dict _ => false
noncomputable def noLs : List PyData → Bool
  | [] => true
  | x :: xs => noL x && noLs xs
end
mutual
theorem Is.tmono {H H' : Hp} (ht : ∀ a xs, H a = some (.tup xs) → H' a = some (.tup xs)) : ∀ {v : V} {d : PyData}, noL d = true → Is H v d → Is H' v d
  | _, _, _, .non => .non
  | _, _, _, .bl b => .bl b
  | _, _, _, .int i => .int i
  | _, _, _, .str x => .str x
  | _, _, n, .tup e h => .tup (ht _ _ e) (IsAll.tmono ht (by simpa [noL] using n) h)
  | _, _, n, .lst e h => by simp [noL] at n
theorem IsAll.tmono {H H' : Hp} (ht : ∀ a xs, H a = some (.tup xs) → H' a = some (.tup xs)) : ∀ {vs : List V} {ds : List PyData}, noLs ds = true → IsAll H vs ds → IsAll H' vs ds
  | _, _, _, .nil => .nil
  | _, _, n, .cons h t => by
    rw [noLs, Bool.and_eq_true] at n
    exact .cons (Is.tmono ht n.1 h) (IsAll.tmono ht n.2 t)
end
theorem Same.rd {H H' : Hp} (e : Same H H') {a : Addr} {u : HO} (h : Rd H a u) : Rd H' a u := by
  rcases h with h | ⟨o, h⟩
  · exact .inl (e _ _ h)
  · exact .inr ⟨o, e _ _ h⟩
theorem Is.same {H H' : Hp} (e : Same H H') {v : V} {d : PyData} (h : Is H v d) : Is H' v d := h.mono (fun _ _ q => e _ _ q) fun _ _ q => e.rd q
theorem IsAll.same {H H' : Hp} (e : Same H H') {v : List V} {d : List PyData} (h : IsAll H v d) : IsAll H' v d := h.mono (fun _ _ q => e _ _ q) fun _ _ q => e.rd q
section
variable {X : Cx} {pins : List (Addr × Obj)} {σ : St} {H : Hp} {s : Shared}
mutual
theorem Is.reads (I : Inv X pins σ H s) : ∀ {v : V} {d : PyData} {u : Value}, Is H v d → RelV v u → ∃ as, Reads s.heap u d as
  | _, _, _, .non, r => by cases (show _ = Value.none from r); exact ⟨_, .none⟩
  | _, _, _, .bl b, r => by cases (show _ = Value.bool b from r); exact ⟨_, .bool b⟩
  | _, _, _, .int i, r => by obtain ⟨t, rfl⟩ := r; exact ⟨_, .int i t⟩
  | _, _, _, .str x, r => by obtain ⟨t, rfl⟩ := r; exact ⟨_, .str x t⟩
  | _, _, _, .tup (a := a) e h, r => by
    cases (show _ = Value.ref a from r)
    obtain ⟨its, rv, ⟨o, h1, h2, n, h3⟩, _⟩ := I.tuple (SqT.of e)
    obtain ⟨as, ra⟩ := IsAll.reads I h rv
    exact ⟨_, .tuple h1 h2 h3 (by simpa using ra)⟩
  | _, _, _, .lst (a := a) e h, r => by
    cases (show _ = Value.ref a from r)
    obtain ⟨its, rv, ⟨o, n, h1, h2, _, h3⟩, _⟩ := I.list (.inl e)
    obtain ⟨as, ra⟩ := IsAll.reads I h rv
    exact ⟨_, .list h1 h2 h3 (by simpa using ra)⟩
theorem IsAll.reads (I : Inv X pins σ H s) : ∀ {vs : List V} {ds : List PyData} {us : List Value}, IsAll H vs ds → Vals vs us → ∃ as, ReadsAll s.heap us ds as
  | _, _, _, .nil, .nil => ⟨_, .nil⟩
  | _, _, _, .cons h t, .cons r q => by
    obtain ⟨as, ra⟩ := Is.reads I h r
    obtain ⟨bs, rb⟩ := IsAll.reads I t q
    exact ⟨_, .cons ra rb⟩
end
end
/-! ### ==, !=, in, not in -/
/-- fit for a comparison -/
noncomputable def okD (d : PyData) : Prop := d.canLay0 = true ∧ d.depth ≤ 40
noncomputable def okDs (ds : List PyData) : Prop := PyData.canLayAll0 ds = true ∧ PyData.depthAll ds ≤ 40
section
variable {X : Cx}
noncomputable def rEqD (neg : Bool) : R2 := fun x y H Q => ∃ d e, Is H x d ∧ Is H y e ∧ okD d ∧ okD e ∧ Q (.bl (if neg then !PyData.eqv d e else PyData.eqv d e)) H
theorem op_eqD (hu : X.A.units + 64 < cLine) : OpR X (compareOp .Eq) (rEqD false) := by
  intro pins s σ H x y v u Q I rx ry h
  obtain ⟨d, e, hx, hy, od, oe, q⟩ := h
  obtain ⟨as, ra⟩ := hx.reads I rx
  obtain ⟨bs, rb⟩ := hy.reads I ry
  exact SeqAt.compareEq_reads ra rb od.1 oe.1 (by have := od.2; omega) ⟨.bl _, H, I, rfl, q⟩
theorem op_neD (hu : X.A.units + 64 < cLine) : OpR X (compareOp .NotEq) (rEqD true) := by
  intro pins s σ H x y v u Q I rx ry h
  obtain ⟨d, e, hx, hy, od, oe, q⟩ := h
  obtain ⟨as, ra⟩ := hx.reads I rx
  obtain ⟨bs, rb⟩ := hy.reads I ry
  exact SeqAt.compareNe_reads ra rb od.1 oe.1 (by have := od.2; omega) ⟨.bl _, H, I, rfl, q⟩
noncomputable def inD (d : PyData) (ds : List PyData) : Bool := ds.any fun y => PyData.eqv y d
noncomputable def rInD (neg : Bool) : R2 := fun x y H Q => ∃ d ds, Is H x d ∧ (Is H y (.tuple ds) ∨ Is H y (.list ds)) ∧ okD d ∧ okDs ds ∧ Q (.bl (if neg then !inD d ds else inD d ds)) H
theorem op_notInD (hu : X.A.units + 64 < cLine) : OpR X (compareOp .NotIn) (rInD true) := by
  intro pins s σ H x y v u Q I rx ry h
  obtain ⟨d, ds, hx, hy, od, oe, q⟩ := h
  obtain ⟨as, ra⟩ := hx.reads I rx
  rcases hy with hy | hy
  · obtain ⟨bs, rb⟩ := hy.reads I ry
    exact SeqAt.notIn_tuple_reads rb ra oe.1 od.1 (by have := od.2; omega) ⟨.bl _, H, I, rfl, q⟩
  · obtain ⟨bs, rb⟩ := hy.reads I ry
    exact SeqAt.notIn_list_reads rb ra oe.1 od.1 (by have := od.2; omega) ⟨.bl _, H, I, rfl, q⟩
end
/-! ### isinstance -/
noncomputable def tyD : PyData → String
  | .none => "NoneType"
  | .bool _ => "bool"
  | .int _ => "int"
  | .str _ => "str"
  | .list _ => "list"
  | .tuple _ => "tuple"
  | .dict _ => "dict"
theorem Is.ty {K : PySem.W.Frag} {H : Hp} {v : V} {d : PyData} (h : Is H v d) : TyOf K H v (.type (tyD d)) := by
  cases h with
  | non => exact .non
  | bl b => exact .bl b
  | int i => exact .int i
  | str x => exact .str x
  | tup e _ => exact .tup e
  | lst e _ =>
    rcases e with e | ⟨o, e⟩
    · exact .lst e
    · exact .frz e
noncomputable def isTy (T : String) (d : PyData) : Bool := tyD d == T || (T == "int" && tyD d == "bool")
theorem kit_bool {K : PySem.W.Frag} (d : PyData) : PySem.W.kitOne K (.type (tyD d)) (.type "bool") = some (isTy "bool" d) := by cases d <;> with_unfolding_all rfl
theorem kit_int {K : PySem.W.Frag} (d : PyData) : PySem.W.kitOne K (.type (tyD d)) (.type "int") = some (isTy "int" d) := by cases d <;> with_unfolding_all rfl
theorem kit_tuple {K : PySem.W.Frag} (d : PyData) : PySem.W.kitOne K (.type (tyD d)) (.type "tuple") = some (isTy "tuple" d) := by cases d <;> with_unfolding_all rfl
theorem kit_list {K : PySem.W.Frag} (d : PyData) : PySem.W.kitOne K (.type (tyD d)) (.type "list") = some (isTy "list" d) := by cases d <;> with_unfolding_all rfl
theorem kit_str {K : PySem.W.Frag} (d : PyData) : PySem.W.kitOne K (.type (tyD d)) (.type "str") = some (isTy "str" d) := by cases d <;> with_unfolding_all rfl
theorem kit_dict {K : PySem.W.Frag} (d : PyData) : PySem.W.kitOne K (.type (tyD d)) (.type "dict") = some (isTy "dict" d) := by cases d <;> with_unfolding_all rfl
section
variable {X : Cx}
theorem call_isinst : CallR X (.builtin "isinstance") (fun xs H Q => ∃ x T d, xs = [x, .ty T] ∧ T ∈ (["bool", "int", "tuple", "list", "str", "dict"] : List String) ∧ Is H x d ∧ Q (.bl (isTy T d)) H) := by
  intro pins s σ H xs us Q I r h
  obtain ⟨x, T, d, rfl, hT, hx, q⟩ := h
  obtain ⟨u, v, rfl, rx, ry⟩ := Vals.two r
  cases (show v = Value.type T from ry)
  have fin : ∀ {b : Bool}, PySem.W.kitOne X.K (.type (tyD d)) (.type T) = some b → b = isTy T d → wpAny (model X.prog X.w) X.A (call (.builtin "isinstance") [u, .type T]) (EP X pins σ Q) X.xe s := fun {b} e eb => by
    subst eb
    exact isinst_ok I rx hx.ty e fun tk => ⟨.bl _, H, I.tok tk, rfl, q⟩
  simp only [List.mem_cons, List.not_mem_nil, or_false] at hT
  rcases hT with rfl | rfl | rfl | rfl | rfl | rfl
  · exact fin (kit_bool d) rfl
  · exact fin (kit_int d) rfl
  · exact fin (kit_tuple d) rfl
  · exact fin (kit_list d) rfl
  · exact fin (kit_str d) rfl
  · exact fin (kit_dict d) rfl
end
end L2

set_option Elab.async false
set_option linter.all false
set_option maxRecDepth 100000
set_option maxHeartbeats 1000000
namespace L2
open PySem PySem.Spec PyProof.Rows
/-! ### the sort's own tree, where the answers are a strict order -/
noncomputable def Run {α : Type} (lt : Nat → Nat → Bool) (n : Nat) : PySem.W.KasT α → (α → Prop) → Prop
  | .ret a, Q => Q a
  | .ask i j k, Q => i < n ∧ j < n ∧ Run lt n (k (lt i j)) Q
section
variable {lt : Nat → Nat → Bool} {n : Nat}
theorem Run.mono {α : Type} {Q Q' : α → Prop} (h : ∀ a, Q a → Q' a) : ∀ {t : PySem.W.KasT α}, Run lt n t Q → Run lt n t Q'
  | .ret a, q => h a q
  | .ask i j k, ⟨a, b, q⟩ => ⟨a, b, Run.mono h q⟩
theorem Run.bind {α β : Type} {f : α → PySem.W.KasT β} {Q : β → Prop} : ∀ {t : PySem.W.KasT α}, Run lt n t (fun a => Run lt n (f a) Q) → Run lt n (t.bind f) Q
  | .ret a, q => q
  | .ask i j k, ⟨a, b, q⟩ => ⟨a, b, Run.bind q⟩
theorem Run.wp {α : Type} {cmp : Nat → Nat → (Bool → Shared → Prop) → Shared → Prop} {Q : α → Prop} {R : α → Shared → Prop} {s : Shared} (hc : ∀ i j C, i < n → j < n → C (lt i j) s → cmp i j C s) (hR : ∀ a, Q a → R a s) :
    ∀ {t : PySem.W.KasT α}, Run lt n t Q → t.kasWp cmp R s
  | .ret a, q => hR a q
  | .ask i j k, ⟨a, b, q⟩ => hc i j _ a b (Run.wp hc hR q)
/-- a strict order of the first n -/
structure Str1 (lt : Nat → Nat → Bool) (n : Nat) : Prop where
  tr : ∀ i j k, i < n → j < n → k < n → lt i j = true → lt j k = true → lt i k = true
  tot : ∀ i j, i < n → j < n → i ≠ j → lt i j = false → lt j i = true
  irr : ∀ i j, i < n → j < n → lt i j = true → lt j i = false
/-- places of the first n, each once -/
structure Plc (n : Nat) (p : Array Nat) : Prop where
  sz : p.size = n
  lt : ∀ i, i < n → p.getD i 0 < n
  ne : ∀ i j, i < n → j < n → i ≠ j → p.getD i 0 ≠ p.getD j 0
  pm : p.toList.Perm (List.range n)
noncomputable def Up (lt : Nat → Nat → Bool) (p : Array Nat) (k : Nat) : Prop := ∀ i j, i < j → j < k → lt (p.getD i 0) (p.getD j 0) = true
noncomputable def Dn (lt : Nat → Nat → Bool) (p : Array Nat) (k : Nat) : Prop := ∀ i j, i < j → j < k → lt (p.getD j 0) (p.getD i 0) = true
variable (S : Str1 lt n)
include S
theorem up_next {p : Array Nat} {k : Nat} (P : Plc n p) (h1 : 1 ≤ k) (hk : k < n) (u : Up lt p k) (h : lt (p.getD (k - 1) 0) (p.getD k 0) = true) : Up lt p (k + 1) := fun i j hij hj => by
  by_cases e : j = k
  · subst e
    by_cases e2 : i = j - 1
    · subst e2; exact h
    · exact S.tr _ _ _ (P.lt _ (by omega)) (P.lt _ (by omega)) (P.lt _ (by omega)) (u i (j - 1) (by omega) (by omega)) h
  · exact u i j hij (by omega)
theorem dn_next {p : Array Nat} {k : Nat} (P : Plc n p) (h1 : 1 ≤ k) (hk : k < n) (u : Dn lt p k) (h : lt (p.getD k 0) (p.getD (k - 1) 0) = true) : Dn lt p (k + 1) := fun i j hij hj => by
  by_cases e : j = k
  · subst e
    by_cases e2 : i = j - 1
    · subst e2; exact h
    · exact S.tr _ _ _ (P.lt _ (by omega)) (P.lt _ (by omega)) (P.lt _ (by omega)) h (u i (j - 1) (by omega) (by omega))
  · exact u i j hij (by omega)
theorem run_asc {p : Array Nat} (P : Plc n p) : ∀ (f k : Nat), 1 ≤ k → k + f ≤ n → Up lt p k → Run lt n (PySem.W.kas_asc p f k) fun r => k ≤ r ∧ r ≤ k + f ∧ Up lt p r ∧ (r < k + f → lt (p.getD r 0) (p.getD (r - 1) 0) = true)
  | 0, k, _, _, u => ⟨Nat.le_refl _, Nat.le_refl _, u, fun h => absurd h (Nat.lt_irrefl _)⟩
  | f + 1, k, h1, hn, u => by
    refine ⟨P.lt _ (by omega), P.lt _ (by omega), ?_⟩
    cases c : lt (p.getD k 0) (p.getD (k - 1) 0) with
    | true => exact ⟨Nat.le_refl _, by omega, u, fun _ => c⟩
    | false =>
      have c' := S.tot _ _ (P.lt _ (by omega)) (P.lt _ (by omega)) (P.ne k (k - 1) (by omega) (by omega) (by omega)) c
      exact (run_asc P f (k + 1) (by omega) (by omega) (up_next S P h1 (by omega) u c')).mono fun r ⟨a, b, c, d⟩ => ⟨by omega, by omega, c, fun h => d (by omega)⟩
theorem run_desc {p : Array Nat} (P : Plc n p) : ∀ (f k : Nat), 1 ≤ k → k + f ≤ n → Dn lt p k → Run lt n (PySem.W.kas_desc f p k 0) fun r => r.1 = p ∧ r.2.2 = 0 ∧ k ≤ r.2.1 ∧ r.2.1 ≤ k + f ∧ Dn lt p r.2.1
  | 0, k, _, _, u => ⟨rfl, rfl, Nat.le_refl _, Nat.le_refl _, u⟩
  | f + 1, k, h1, hn, u => by
    refine ⟨P.lt _ (by omega), P.lt _ (by omega), ?_⟩
    cases c : lt (p.getD k 0) (p.getD (k - 1) 0) with
    | true =>
      show Run lt n (if (0 : Nat) > 0 then PySem.W.kas_desc f (PySem.W.kas_rev p (k - (0 + 1)) k) (k + 1) 0 else PySem.W.kas_desc f p (k + 1) 0) _
      rw [if_neg (Nat.lt_irrefl 0)]
      exact (run_desc P f (k + 1) (by omega) (by omega) (dn_next S P h1 (by omega) u c)).mono fun r ⟨a, b, c, d, e⟩ => ⟨a, b, by omega, by omega, e⟩
    | false =>
      have c' := S.tot _ _ (P.lt _ (by omega)) (P.lt _ (by omega)) (P.ne k (k - 1) (by omega) (by omega) (by omega)) c
      refine ⟨P.lt _ (by omega), P.lt _ (by omega), ?_⟩
      rw [c']
      exact ⟨rfl, rfl, Nat.le_refl _, Nat.le_add_right _ _, u⟩
omit S in
theorem getD_rev {p : Array Nat} {k : Nat} (hk : k ≤ p.size) (i : Nat) : (PySem.W.kas_rev p 0 k).getD i 0 = if i < k then p.getD (k - 1 - i) 0 else p.getD i 0 := by
  have e : ∀ (q : Array Nat) (i : Nat), q.getD i 0 = (q[i]?).getD 0 := fun q i => by
    by_cases h : i < q.size
    · simp [Array.getD, h]
    · simp [Array.getD, h]
  rw [e, e, e]
  unfold PySem.W.kas_rev
  rw [getElem?_mirror hk _ (by omega)]
  by_cases h : i < k
  · rw [if_pos h]
    by_cases h2 : (0 ≤ i ∧ i < 0 + (k - 0) / 2) ∨ (k - (k - 0) / 2 ≤ i ∧ i < k)
    · rw [if_pos h2]
      congr 2
      omega
    · rw [if_neg h2]
      have : k - 1 - i = i := by omega
      rw [this]
  · rw [if_neg h, if_neg (by omega)]
omit S in
theorem rev_plc {p : Array Nat} (P : Plc n p) {k : Nat} (hk : k ≤ n) : Plc n (PySem.W.kas_rev p 0 k) where
  sz := (mirror_size _ _ _ _).trans P.sz
  lt := fun i hi => by
    rw [getD_rev (by rw [P.sz]; exact hk)]
    split
    · exact P.lt _ (by omega)
    · exact P.lt _ hi
  ne := fun i j hi hj hne => by
    rw [getD_rev (by rw [P.sz]; exact hk), getD_rev (by rw [P.sz]; exact hk)]
    split <;> split <;> exact P.ne _ _ (by omega) (by omega) (by omega)
  pm := (Array.perm_iff_toList_perm.mp (mirror_perm _ _ _ _)).trans P.pm
omit S in
theorem rev_up {p : Array Nat} (P : Plc n p) {k : Nat} (hk : k ≤ n) (d : Dn lt p k) : Up lt (PySem.W.kas_rev p 0 k) k := fun i j hij hj => by
  rw [getD_rev (by rw [P.sz]; exact hk), getD_rev (by rw [P.sz]; exact hk), if_pos (by omega), if_pos hj]
  exact d _ _ (by omega) (by omega)
theorem run_tail3 {p : Array Nat} (P : Plc n p) {k : Nat} (h1 : 1 ≤ k) (hk : k ≤ n) (d : Dn lt p k) : Run lt n (PySem.W.kas_tail3 k n p) fun r => 1 ≤ r.1 ∧ r.1 ≤ n ∧ Plc n r.2 ∧ Up lt r.2 r.1 := by
  unfold PySem.W.kas_tail3
  refine Run.bind ((run_asc S (rev_plc P hk) (n - k) k h1 (by omega) (rev_up P hk d)).mono fun r ⟨a, b, c, _⟩ => ?_)
  exact ⟨by omega, by omega, rev_plc P hk, c⟩
theorem run_count {p : Array Nat} (P : Plc n p) (h1 : 1 ≤ n) : Run lt n (PySem.W.kas_count n p) fun r => 1 ≤ r.1 ∧ r.1 ≤ n ∧ Plc n r.2 ∧ Up lt r.2 r.1 := by
  unfold PySem.W.kas_count
  refine Run.bind ((run_asc S P (n - 1) 1 (Nat.le_refl _) (by omega) (fun i j hij hj => by omega)).mono fun r ⟨a, b, u, c⟩ => ?_)
  by_cases hr : (r == n) = true
  · rw [if_pos hr]
    exact ⟨a, by omega, P, u⟩
  · rw [if_neg hr]
    have hr' : r ≠ n := by simpa using hr
    by_cases h2 : r > 1
    · rw [if_pos h2]
      refine ⟨P.lt _ (by omega), P.lt _ (by omega), ?_⟩
      rw [u 0 (r - 1) (by omega) (by omega)]
      exact ⟨a, by omega, P, u⟩
    · rw [if_neg h2]
      have er : r = 1 := by omega
      subst er
      unfold PySem.W.kas_descPart
      have c0 := c (by omega)
      have d2 : Dn lt p 2 := fun i j hij hj => by
        have ei : i = 0 := by omega
        have ej : j = 1 := by omega
        subst ei ej
        exact c0
      refine Run.bind ((run_desc S P (n - (1 + 1)) (1 + 1) (by omega) (by omega) d2).mono fun q ⟨e1, e2, e3, e4, e5⟩ => ?_)
      rw [e2, if_neg (Nat.lt_irrefl 0), e1]
      exact run_tail3 S P (by omega) (by omega) e5
theorem run_place {p : Array Nat} (P : Plc n p) {k : Nat} (hk : k < n) : ∀ (f l r : Nat), r ≤ l + f → l ≤ r → r ≤ k → (∀ i, i < l → lt (p.getD i 0) (p.getD k 0) = true) → (∀ i, r ≤ i → i < k → lt (p.getD k 0) (p.getD i 0) = true) → Up lt p k →
    Run lt n (PySem.W.kas_place p k f l r) fun x => x ≤ k ∧ (∀ i, i < x → lt (p.getD i 0) (p.getD k 0) = true) ∧ (∀ i, x ≤ i → i < k → lt (p.getD k 0) (p.getD i 0) = true)
  | 0, l, r, h1, h2, h3, hl, hr, _ => by
    have e : l = r := by omega
    subst e
    exact ⟨h3, hl, hr⟩
  | f + 1, l, r, h1, h2, h3, hl, hr, u => by
    unfold PySem.W.kas_place
    by_cases h : l ≥ r
    · rw [if_pos h]
      have e : l = r := by omega
      subst e
      exact ⟨h3, hl, hr⟩
    · rw [if_neg h]
      refine ⟨P.lt _ (by omega), P.lt _ (by omega), ?_⟩
      cases c : lt (p.getD k 0) (p.getD ((l + r) / 2) 0) with
      | true =>
        refine run_place P hk f l ((l + r) / 2) (by omega) (by omega) (by omega) hl (fun i hi1 hi2 => ?_) u
        by_cases e : i = (l + r) / 2
        · subst e; exact c
        · exact S.tr _ _ _ (P.lt _ (by omega)) (P.lt _ (by omega)) (P.lt _ (by omega)) c (u _ _ (by omega) (by omega))
      | false =>
        have c' := S.tot _ _ (P.lt _ (by omega)) (P.lt _ (by omega)) (P.ne k ((l + r) / 2) (by omega) (by omega) (by omega)) c
        refine run_place P hk f ((l + r) / 2 + 1) r (by omega) (by omega) h3 (fun i hi => ?_) hr u
        by_cases e : i = (l + r) / 2
        · subst e; exact c'
        · exact S.tr _ _ _ (P.lt _ (by omega)) (P.lt _ (by omega)) (P.lt _ (by omega)) (u _ _ (by omega) (by omega)) c'
omit S in
theorem getD_bubble {p : Array Nat} {k d : Nat} (hk : k < p.size) (hd : d ≤ k) (i : Nat) : (bubble p k d).getD i 0 = if i = k - d then p.getD k 0 else if k - d < i ∧ i ≤ k then p.getD (i - 1) 0 else p.getD i 0 := by
  have e : ∀ (q : Array Nat) (i : Nat), q.getD i 0 = (q[i]?).getD 0 := fun q i => by
    by_cases h : i < q.size
    · simp [Array.getD, h]
    · simp [Array.getD, h]
  rw [e, e, e, e, getElem?_bubble hk d hd]
  split
  · rfl
  · split <;> rfl
omit S in
theorem bubble_plc {p : Array Nat} (P : Plc n p) {k d : Nat} (hk : k < n) (hd : d ≤ k) : Plc n (bubble p k d) where
  sz := (bubble_size _ _ _).trans P.sz
  lt := fun i hi => by
    rw [getD_bubble (by rw [P.sz]; exact hk) hd]
    split
    · exact P.lt _ hk
    · split
      · exact P.lt _ (by omega)
      · exact P.lt _ hi
  ne := fun i j hi hj hne => by
    rw [getD_bubble (by rw [P.sz]; exact hk) hd, getD_bubble (by rw [P.sz]; exact hk) hd]
    split <;> split <;> first | (split <;> first | exact P.ne _ _ (by omega) (by omega) (by omega) | (split <;> exact P.ne _ _ (by omega) (by omega) (by omega))) | exact P.ne _ _ (by omega) (by omega) (by omega) | omega
  pm := (Array.perm_iff_toList_perm.mp (bubble_perm _ _ _)).trans P.pm
theorem run_bin : ∀ (f : Nat) (p : Array Nat) (k : Nat), Plc n p → k + f = n → 1 ≤ k → Up lt p k → Run lt n (PySem.W.kas_bin f p k) fun q => Plc n q ∧ Up lt q n
  | 0, p, k, P, e, _, u => by
    have e' : k = n := by omega
    subst e'
    exact ⟨P, u⟩
  | f + 1, p, k, P, e, h1, u => by
    unfold PySem.W.kas_bin
    refine Run.bind ((run_place S P (by omega : k < n) k 0 k (by omega) (by omega) (Nat.le_refl _) (fun i hi => by omega) (fun i h1 h2 => by omega) u).mono fun l ⟨hl, ha, hb⟩ => ?_)
    have hp : k < p.size := by rw [P.sz]; omega
    refine run_bin f _ (k + 1) (bubble_plc P (by omega) (by omega)) (by omega) (by omega) fun i j hij hj => ?_
    rw [getD_bubble hp (by omega), getD_bubble hp (by omega)]
    have el : k - (k - l) = l := by omega
    rw [el]
    by_cases hi : i = l
    · rw [if_pos hi]
      rw [if_neg (by omega : ¬ j = l), if_pos (by omega)]
      exact hb _ (by omega) (by omega)
    · rw [if_neg hi]
      by_cases hj' : j = l
      · rw [if_pos hj', if_neg (by omega)]
        exact ha _ (by omega)
      · rw [if_neg hj']
        by_cases c1 : l < i ∧ i ≤ k
        · rw [if_pos c1, if_pos (by omega)]
          exact u _ _ (by omega) (by omega)
        · rw [if_neg c1]
          by_cases c2 : l < j ∧ j ≤ k
          · rw [if_pos c2]
            exact u _ _ (by omega) (by omega)
          · rw [if_neg c2]
            exact u _ _ (by omega) (by omega)
theorem run_sort (h1 : 1 ≤ n) : Run lt n (PySem.W.kas_sort n) fun q => Plc n q ∧ Up lt q n := by
  unfold PySem.W.kas_sort
  have P0 : Plc n (List.toArray (List.range n)) := by
    have e : ∀ i, i < n → (List.toArray (List.range n)).getD i 0 = i := fun i hi => by simp [Array.getD, hi]
    exact ⟨by simp, fun i hi => by rw [e i hi]; exact hi, fun i j hi hj hne => by rw [e i hi, e j hj]; exact hne, List.Perm.refl _⟩
  refine Run.bind ((run_count S P0 h1).mono fun r ⟨a, b, P, u⟩ => ?_)
  by_cases h : r.1 < n
  · rw [if_pos h]
    have em : max r.1 1 = r.1 := by omega
    rw [em]
    exact run_bin S _ _ _ P (by omega) a u
  · rw [if_neg h]
    have e : r.1 = n := by omega
    rw [e] at u
    exact ⟨P, u⟩
end
end L2

set_option Elab.async false
set_option linter.all false
set_option maxRecDepth 100000
set_option maxHeartbeats 1000000
namespace L2
open PySem PySem.Spec PyProof.Rows
theorem ns_one {h : Heap} {a : Addr} {m m' : Str → Option Value} (x : h.Ns a m) (y : h.Ns a m') : m = m' := by
  obtain ⟨o, es, ep, e, d, _, f⟩ := x
  obtain ⟨o', es', ep', e', d', _, f'⟩ := y
  rw [e] at e'; cases e'
  rw [d] at d'; cases d'
  funext z
  rw [← f z, ← f' z]
theorem ObjOk.there {P : Program} {w : World} {H : Hp} {h : Heap} {a : Addr} {o : HO} (x : ObjOk P w H h a o) : ∃ u, h.get? a = some u := by
  cases o with
  | lst xs => obtain ⟨_, _, _, _, e⟩ := x; exact ⟨_, e⟩
  | tup xs => obtain ⟨_, _, _, _, o, e, _⟩ := x; exact ⟨_, e⟩
  | dK kvs => obtain ⟨_, _, _, _, o, _, _, e, _⟩ := x; exact ⟨_, e⟩
  | dT kvs => obtain ⟨_, _, _, _, o, _, _, e, _⟩ := x; exact ⟨_, e⟩
  | set S n => obtain ⟨o, _, _, _, e, _⟩ := x; exact ⟨_, e⟩
  | ins C dx fs => obtain ⟨_, _, _, e, _⟩ := x; exact ⟨_, e⟩
  | own y => obtain ⟨_, e⟩ := x; exact ⟨_, e⟩
  | xd fs => obtain ⟨_, ⟨_, _, _, e, _⟩, _⟩ := x; exact ⟨_, e⟩
  | rng lo hi => obtain ⟨_, _, _, e⟩ := x; exact ⟨_, e⟩
  | frz ob u => obtain ⟨e, _⟩ := x; exact ⟨_, e⟩
  | tbl ps => exact ⟨_, show h.get? a = some _ from x⟩
  | met f y => exact ⟨_, show h.get? a = some _ from x⟩
  | ext φ => obtain ⟨_, ⟨_, e⟩, _⟩ := x; exact ⟨_, e⟩
section
variable {X : Cx} {pins : List (Addr × Obj)} {σ : St} {H : Hp} {s : Shared}
theorem Inv.none_of (I : Inv X pins σ H s) {a : Addr} (h : s.heap.get? a = none) : H a = none := by
  cases q : H a with
  | none => rfl
  | some o =>
    obtain ⟨u, e⟩ := (I.hok a o q).there
    rw [h] at e; cases e
/-- all objects but the frame are kept, the frame's map too; a new list is tracked -/
theorem Inv.laidBut {a : Addr} {xs : List V} {its : List Value} {n t' : Nat} {h' : Heap} {m : Str → Option Value} (I : Inv X pins σ H s) (k : ∀ b u, b ≠ X.env.locals → s.heap.get? b = some u → h'.get? b = some u) (hm : s.heap.Ns X.env.locals m) (hm' : h'.Ns X.env.locals m)
    (hp : s.heap.get? a = none) (rv : Vals xs its) (hz : xs.length ≤ sizeLine) (ho : h'.get? a = some { cls := .type "list", data := .seq its.toArray n }) : Inv X pins σ (upd H a (.lst xs)) { s with heap := h', toks := t' } := by
  have hn : H a = none := I.none_of hp
  have neL : ∀ b u, H b = some u → b ≠ X.env.locals := fun b u e z => by rw [z, I.free] at e; cases e
  refine I.step (g' := s.gens) (d' := s.drawn) (ch := []) (fun _ z => nomatch z) (fun b o h1 _ _ e _ => k b o h1 e) (fun b o h1 _ _ e _ => ⟨o.slots, k b o h1 e⟩)
    (fun b o _ e q => by rw [upd_ne (fun z => by rw [z, hp] at e; cases e)]; exact q) (fun b o _ e => ?_)
    (fun b xs q => by rw [upd_ne (ne_of_none q hn)]; exact q) (fun b o u q => by rw [upd_ne (ne_of_none q hn)]; exact q) (fun b ps q => ⟨#[], by rw [upd_ne (ne_of_none q hn), q]; simp⟩) (fun m2 h2 => ?_) (fun b u e => ?_) I.bare
  · by_cases hb : b = X.env.locals
    · subst hb
      obtain ⟨o', _, _, e', _⟩ := hm'
      exact ⟨o', e'⟩
    · exact ⟨o, k b o hb e⟩
  · rw [ns_one h2 hm]; exact hm'
  · by_cases hb : b = a
    · subst hb
      rw [upd_same] at e
      cases e
      exact ⟨hz, its, n, rv, ho⟩
    · rw [upd_ne hb] at e
      refine (I.hok b u e).stay (fun c v hc q => k c v ?_ q) (fun c q => by rw [upd_ne (ne_of_none q hn)]; exact q) fun c xs q => by rw [upd_ne (ne_of_none q hn)]; exact q
      rcases hc with rfl | hc
      · exact neL _ _ e
      · exact neL _ _ hc
end
/-! ### all, any over a list of bools -/
section
variable {X : Cx}
theorem bools_of : ∀ {bs : List Bool} {vs : List Value}, Vals (bs.map V.bl) vs → LSm.BoolsAre vs bs
  | [], _, .nil => .nil
  | b :: bs, _, .cons r t => by
    cases (show _ = Value.bool b from r)
    exact .cons b (bools_of t)
theorem call_all (hc : X.calm = true) : CallR X (.builtin "all") (fun xs H Q => ∃ (p : Addr) (bs : List Bool), xs = [.ref p] ∧ SqL X.K H p (bs.map V.bl) ∧ Q (.bl (bs.all id)) H) := by
  intro pins s σ H xs us Q I r h
  obtain ⟨p, bs, rfl, hq, q⟩ := h
  obtain ⟨u, rfl, rx⟩ := Vals.one r
  cases (show u = Value.ref p from rx)
  obtain ⟨its, rv, pl, hz⟩ := I.list hq
  obtain ⟨m, F⟩ := I.fr
  have hb := bools_of rv
  have hl : s.heap.IsList p its.toArray := pl.isList
  have hlt : p < s.heap.objs.size := by obtain ⟨_, e, _⟩ := hl; exact Heap.lt_size e
  refine call_all_walk (wpAny_pyIter_list hl ?_)
  refine ⟨s.heap.objs.size, [s.heap.objs.size, p], [s.heap.objs.size], its.toArray.size, _, _, fun i => (bs[i]?).getD true, rfl, Walks.list (A := X.A.in1) (I.ok.hd hc) _ p (Nat.ne_of_lt hlt) its.toArray,
    ⟨⟨_, Heap.get?_push_size _ rfl, rfl, rfl⟩, hl.push _⟩, fun i v s' Q' E' hP hQ => ?_, fun h' tk hk => ?_⟩
  · obtain ⟨b, e, rfl⟩ := hb.get i v (by simpa using hP)
    simp only [e, Option.getD_some] at hQ
    exact wpAny_truthy_bool hQ
  · have e : ((List.range its.toArray.size).all fun i => (bs[i]?).getD true) = bs.all id := by
      rw [List.size_toArray, hb.length]; exact LSm.range_all bs
    rw [e]
    exact ⟨.bl _, H, I.kept (LSm.kept_iter hk), rfl, q⟩
end
/-! ### sorted: a list of tuples, texts that all share ahead, then ints, no two alike -/
section
variable {prog : Program} {w : World} {A : Around} {E : Value → Shared → Prop} {s : Shared}
/-- what is collected of l: its items, laid in a new list -/
noncomputable def Col (prog : Program) (w : World) (s : Shared) (l : Addr) (vs : List Value) : Prop := ∀ (A : Around) (E : Value → Shared → Prop) (Q : List Value → Shared → Prop),
  Q vs { s with heap := (s.heap.push (seqObj "list" #[] 0)).update s.heap.objs.size (Obj.mapSeq (· ++ vs.toArray)) } → wpAny (model prog w) A (collect (.ref l)) Q E s
theorem Col.list {l : Addr} {vs : List Value} (hl : s.heap.IsList l vs.toArray) (hz : vs.length ≤ sizeLine) : Col prog w s l vs := fun _ _ _ h => collect_list hl h hz
theorem Col.tup {l : Addr} {vs : List Value} (hl : IsTup s.heap l vs.toArray) (hz : vs.length ≤ sizeLine) : Col prog w s l vs := by
  intro A E Q h
  obtain ⟨o, ho, hc, n, hd⟩ := hl
  have ho' : (s.heap.push (seqObj "list" #[] 0)).get? l = some o := Heap.get?_push_of_some _ ho
  have e0 : ((#[] : Array Value) ++ vs.toArray).toList = vs := by simp
  unfold collect
  refine wpAny_bind (wpAny_runValue (codeAny_builtin entry_proto_collect' ?_))
  show wpAny _ _ (do again (.builtin "list.__iadd__" ⟨[← newList [], .ref l], []⟩)) _ _ s
  refine wpAny_bind (wpAny_newList (wpAny_pure ⟨Code.quiet_builtin _ (by decide +kernel), codeAny_builtin entry_list_iadd' ?_⟩))
  show wpAny _ _ (Builtin.List.listExtendWith (.ref s.heap.objs.size) (.ref l) (.ref s.heap.objs.size)) _ _ { s with heap := s.heap.push (seqObj "list" #[] 0) }
  unfold Builtin.List.listExtendWith
  refine wpAny_bind (wpAny_typeOf (T := "tuple") ⟨o, ho', hc⟩ ?_)
  have ht2 : (Value.type "tuple" == Value.type "tuple") = true := by rfl
  rw [if_pos (by rw [ht2]; simp)]
  refine wpAny_bind (listItems_at ho' hd ?_)
  refine wpAny_bind (listItems_at (xs := #[]) (n := 0) (Heap.get?_push_size _ rfl) rfl ?_)
  rw [if_neg (by simp)]
  refine wpAny_bind (listUpdate_at (xs := #[]) (n := 0) (Heap.get?_push_size _ rfl) rfl ?_ (Nat.zero_le _) (Nat.le_trans (Nat.le_of_eq (by rw [← Array.length_toList, e0])) (Nat.le_succ_of_le hz)))
  refine wpAny_pure ?_
  show wpAny (model prog w) A (do
      let ob ← load s.heap.objs.size
      match ob.data with
      | .seq xs _ => pure xs.toList
      | _ => unsupported "internal:collect") Q E { s with heap := (s.heap.push (seqObj "list" #[] 0)).update s.heap.objs.size (Obj.mapSeq (· ++ vs.toArray)) }
  refine wpAny_bind (wpAny_load (get?_update_seq (Heap.get?_push_size _ rfl) _) ?_)
  show wpAny _ _ (pure ((#[] : Array Value) ++ vs.toArray).toList) Q E _
  rw [e0]
  exact wpAny_pure h
theorem sorted_many {l : Addr} {vs : List Value} {Q : Value → Shared → Prop} {h₀ : Heap} {L : Addr} {m : Str → Option Value} {news : List (Addr × Obj)} (F : Fr h₀ L s.heap m) (N : News h₀ L s.heap news) (hl : Col prog w s l vs) (h2 : 2 ≤ vs.length) (h64 : vs.length < 64)
    (h : ∀ D e1 h', Fr h₀ L h' m → News h₀ L h' ((D, seqObj "list" #[] e1) :: news) → (∀ q ∈ news, q.1 < D) →
      wpAny (model prog w) A.in1.in1 (keyKind' vs.toArray) (fun κ s' => (PySem.W.kas_sort vs.length).kasWp (PySem.W.kas_ask prog w A.in1.in1 κ vs) (fun p s'' => PySem.W.KasFin h₀ L m D e1 (p.toList.map fun i => vs.getD i Value.none) (fun s3 => Q (.ref D) s3) s'') s') (fun _ _ => False) { s with heap := h' }) :
    wpAny (model prog w) A (call (.builtin "sorted") [.ref l]) Q E s := by
  have hsl : vs.length ≤ sizeLine := by rw [sizeLine_eq]; omega
  refine Calls.call_function_entry kind_sorted plain_sorted entry_sorted (args_sorted1 _) ?_
  unfold Builtin.«sorted»
  refine wpAny_bind (m := checkCount "sorted" 1 1 _) (wpAny_pure ?_)
  refine wpAny_bind (hl _ _ _ ?_)
  refine wpAny_bind (wpAny_newList ?_ hsl)
  have hsz : ((s.heap.push (seqObj "list" #[] 0)).update s.heap.objs.size (Obj.mapSeq (· ++ vs.toArray))).objs.size = s.heap.objs.size + 1 := by
    rw [Heap.size_update, size_push']
  have hoL : (((s.heap.push (seqObj "list" #[] 0)).update s.heap.objs.size (Obj.mapSeq (· ++ vs.toArray))).push (seqObj "list" vs.toArray 0)).get? (s.heap.objs.size + 1) = some (seqObj "list" vs.toArray 0) := by
    rw [← hsz]; exact Heap.get?_push_size _ rfl
  have keep : ∀ b o, s.heap.get? b = some o → (((s.heap.push (seqObj "list" #[] 0)).update s.heap.objs.size (Obj.mapSeq (· ++ vs.toArray))).push (seqObj "list" vs.toArray 0)).get? b = some o := fun b o q => by
    have hlt : b < s.heap.objs.size := Heap.lt_size q
    rw [Heap.get?_push_ne _ _ _ (by rw [hsz]; exact Nat.ne_of_lt (Nat.lt_succ_of_lt hlt)), Heap.get?_update_ne _ _ _ _ (Nat.ne_of_lt hlt), Heap.get?_push_ne _ _ _ (Nat.ne_of_lt hlt)]
    exact q
  have hL : L < s.heap.objs.size := F.ns.lt
  show wpAny _ _ _ _ _ { s with heap := ((s.heap.push (seqObj "list" #[] 0)).update s.heap.objs.size (Obj.mapSeq (· ++ vs.toArray))).push (seqObj "list" vs.toArray 0) }
  rw [hsz]
  refine wpAny_bind (wpAny_holding (wpAny_call_entry slot_list_sort ⟨_, hoL, rfl⟩ entry_list_sort ?body (args_list_sort _)))
  case body =>
    refine PySem.W.kat_list_sort (s := { s with heap := ((s.heap.push (seqObj "list" #[] 0)).update s.heap.objs.size (Obj.mapSeq (· ++ vs.toArray))).push (seqObj "list" vs.toArray 0) })
      (F.kept keep) (N.grown keep) hoL (Nat.ne_of_gt (Nat.lt_succ_of_lt hL)) (Heap.get?_none_of_le (Nat.le_trans F.above (Nat.le_succ_of_le (Nat.le_of_lt hL))))
      (fun p hp => Nat.ne_of_lt (Nat.lt_succ_of_lt (Heap.lt_size (N p hp).1))) h2 h64 fun e1 h' F' N' => ?_
    refine wpAny_mono (h _ e1 h' F' N' fun q hq => Nat.lt_succ_of_lt (Heap.lt_size (N q hq).1)) (fun κ s' hk => ?_) fun _ _ x => x
    rw [PySem.W.kat_ask_eq rfl] at hk ⊢
    exact PySem.W.kas_wp_mono hk fun p s'' hk' => hk'.mono fun s3 hq => ⟨_, rfl, wpAny_pure ⟨_, rfl, hq⟩⟩
theorem sorted_few {l : Addr} {vs : List Value} {Q : Value → Shared → Prop} (hl : Col prog w s l vs) (h2 : vs.length < 2)
    (h : ∀ D h' n, s.heap.objs.size ≤ D → (∀ b o, s.heap.get? b = some o → h'.get? b = some o) → h'.get? D = some { cls := .type "list", data := .seq vs.toArray n } → Q (.ref D) { s with heap := h' }) :
    wpAny (model prog w) A (call (.builtin "sorted") [.ref l]) Q E s := by
  have hsl : vs.length ≤ sizeLine := by rw [sizeLine_eq]; omega
  refine Calls.call_function_entry kind_sorted plain_sorted entry_sorted (args_sorted1 _) ?_
  unfold Builtin.«sorted»
  refine wpAny_bind (m := checkCount "sorted" 1 1 _) (wpAny_pure ?_)
  refine wpAny_bind (hl _ _ _ ?_)
  refine wpAny_bind (wpAny_newList ?_ hsl)
  have hsz : ((s.heap.push (seqObj "list" #[] 0)).update s.heap.objs.size (Obj.mapSeq (· ++ vs.toArray))).objs.size = s.heap.objs.size + 1 := by
    rw [Heap.size_update, size_push']
  have hoL : (((s.heap.push (seqObj "list" #[] 0)).update s.heap.objs.size (Obj.mapSeq (· ++ vs.toArray))).push (seqObj "list" vs.toArray 0)).get? (s.heap.objs.size + 1) = some (seqObj "list" vs.toArray 0) := by
    rw [← hsz]; exact Heap.get?_push_size _ rfl
  have keep : ∀ b o, s.heap.get? b = some o → (((s.heap.push (seqObj "list" #[] 0)).update s.heap.objs.size (Obj.mapSeq (· ++ vs.toArray))).push (seqObj "list" vs.toArray 0)).get? b = some o := fun b o q => by
    have hlt : b < s.heap.objs.size := Heap.lt_size q
    rw [Heap.get?_push_ne _ _ _ (by rw [hsz]; exact Nat.ne_of_lt (Nat.lt_succ_of_lt hlt)), Heap.get?_update_ne _ _ _ _ (Nat.ne_of_lt hlt), Heap.get?_push_ne _ _ _ (Nat.ne_of_lt hlt)]
    exact q
  show wpAny _ _ _ _ _ { s with heap := ((s.heap.push (seqObj "list" #[] 0)).update s.heap.objs.size (Obj.mapSeq (· ++ vs.toArray))).push (seqObj "list" vs.toArray 0) }
  rw [hsz]
  generalize ((s.heap.push (seqObj "list" #[] 0)).update s.heap.objs.size (Obj.mapSeq (· ++ vs.toArray))).push (seqObj "list" vs.toArray 0) = g at hoL keep ⊢
  refine wpAny_bind (wpAny_holding (wpAny_call_entry slot_list_sort ⟨_, hoL, rfl⟩ entry_list_sort ?body (args_list_sort _)))
  case body =>
    rw [list_sort_plain]
    have ha : s.heap.objs.size + 1 < g.objs.size := Heap.lt_size hoL
    refine wpAny_bind (listItems_at hoL rfl ?_)
    refine wpAny_bind (listUpdate_at hoL rfl ?_ (by rw [List.size_toArray]; exact hsl) (Nat.zero_le _))
    obtain ⟨e1, ho1⟩ : ∃ e1, (g.update (s.heap.objs.size + 1) (Obj.mapSeq fun _ => (#[] : Array Value))).get? (s.heap.objs.size + 1) = some (seqObj "list" #[] e1) := ⟨_, get?_update_seq hoL (fun _ => #[])⟩
    refine wpAny_bind (seqEpoch_at ho1 rfl ?_)
    refine wpAny_bind (wpAny_newTuple ?_ hsl)
    refine wpAny_bind (wpAny_newList ?_ (Nat.zero_le _))
    refine wpAny_holding ?_
    have ho6 : (((g.update (s.heap.objs.size + 1) (Obj.mapSeq fun _ => (#[] : Array Value))).push (seqObj "tuple" vs.toArray 0)).push (seqObj "list" #[] 0)).get? (s.heap.objs.size + 1) = some (seqObj "list" #[] e1) := by
      rw [Heap.get?_push_ne _ _ _ (by rw [size_push', Heap.size_update]; exact Nat.ne_of_lt (Nat.lt_succ_of_lt ha)), Heap.get?_push_ne _ _ _ (by rw [Heap.size_update]; exact Nat.ne_of_lt ha)]
      exact ho1
    show wpAny (model prog w) _ _ _ _ { s with heap := ((g.update (s.heap.objs.size + 1) (Obj.mapSeq fun _ => (#[] : Array Value))).push (seqObj "tuple" vs.toArray 0)).push (seqObj "list" #[] 0) }
    dsimp only
    have h2' : vs.toArray.size < 2 := by simpa using h2
    rw [if_pos h2', if_pos h2']
    refine wpAny_bind (wpAny_pure ?_)
    rw [StateT.run_pure]
    refine wpAny_bind (wpAny_pure ?_)
    dsimp only
    refine wpAny_bind (seqEpoch_at ho6 rfl ?_)
    have earr : (arrOf (SortSt.mk' general' (vs.toArray.zip vs.toArray) #[] 7 none)).map (·.2) = vs.toArray := by
      show (pairsOf vs).map (·.2) = vs.toArray
      apply Array.toList_inj.mp
      rw [Array.toList_map, pairsOf_toList]
      have e : ∀ l : List Value, (l.zip l).map (·.2) = l := fun l => by
        induction l with
        | nil => rfl
        | cons a r ih => rw [List.zip_cons_cons, List.map_cons, ih]
      rw [e]
    refine wpAny_bind (listUpdate_at ho6 rfl ?_ (Nat.zero_le _) (hsz2 := by rw [earr, List.size_toArray]; exact Nat.le_succ_of_le hsl))
    simp only [bne_self_eq_false, Bool.false_eq_true, if_false]
    refine wpAny_pure ⟨_, rfl, wpAny_pure ⟨_, rfl, ?_⟩⟩
    have s2 := get?_update_seq ho6 fun _ => vs.toArray
    rw [earr]
    refine h _ _ _ (Nat.le_succ _) (fun b o q => ?_) s2
    have hlt : b < s.heap.objs.size := Heap.lt_size q
    have hlt2 : b < g.objs.size := Heap.lt_size (keep b o q)
    rw [Heap.get?_update_ne _ _ _ _ (Nat.ne_of_lt (Nat.lt_succ_of_lt hlt)), Heap.get?_push_ne _ _ _ (by rw [size_push', Heap.size_update]; exact Nat.ne_of_lt (Nat.lt_succ_of_lt hlt2)), Heap.get?_push_ne _ _ _ (by rw [Heap.size_update]; exact Nat.ne_of_lt hlt2),
      Heap.get?_update_ne _ _ _ _ (Nat.ne_of_lt (Nat.lt_succ_of_lt hlt))]
    exact keep b o q
end
end L2

set_option Elab.async false
set_option linter.all false
set_option maxRecDepth 100000
set_option maxHeartbeats 1000000
namespace L2
open PySem PySem.Spec PyProof.Rows
/-! ### lists of ints in their order -/
theorem lex_irr : ∀ a : List Int, HT.lexLt a a = false
  | [] => rfl
  | x :: a => by rw [HT.lexLt_cons, if_pos rfl]; exact lex_irr a
theorem lex_asym : ∀ {a b : List Int}, HT.lexLt a b = true → HT.lexLt b a = false
  | [], [], h => by cases h
  | [], _ :: _, _ => rfl
  | _ :: _, [], h => by cases h
  | x :: a, y :: b, h => by
    rw [HT.lexLt_cons] at h ⊢
    by_cases e : x = y
    · rw [if_pos e] at h
      rw [if_pos e.symm]
      exact lex_asym h
    · rw [if_neg e] at h
      rw [if_neg (Ne.symm e)]
      have := of_decide_eq_true h
      exact decide_eq_false (by omega)
theorem lex_tot : ∀ {a b : List Int}, a ≠ b → HT.lexLt a b = false → HT.lexLt b a = true
  | [], [], h, _ => (h rfl).elim
  | [], _ :: _, _, h => by cases h
  | _ :: _, [], _, _ => rfl
  | x :: a, y :: b, hne, h => by
    rw [HT.lexLt_cons] at h ⊢
    by_cases e : x = y
    · rw [if_pos e] at h
      rw [if_pos e.symm]
      exact lex_tot (fun z => hne (by rw [e, z])) h
    · rw [if_neg e] at h
      rw [if_neg (Ne.symm e)]
      have := of_decide_eq_false h
      exact decide_eq_true (by omega)
theorem lex_tr : ∀ {a b c : List Int}, HT.lexLt a b = true → HT.lexLt b c = true → HT.lexLt a c = true
  | [], _, [], h1, h2 => by
    rename_i b
    cases b
    · exact h1
    · cases h2
  | [], _, _ :: _, _, _ => rfl
  | _ :: _, [], _, h, _ => by cases h
  | _ :: _, _ :: _, [], _, h => by cases h
  | x :: a, y :: b, z :: c, h1, h2 => by
    rw [HT.lexLt_cons] at h1 h2 ⊢
    by_cases e1 : x = y
    · rw [if_pos e1] at h1
      by_cases e2 : y = z
      · rw [if_pos e2] at h2
        rw [if_pos (e1.trans e2)]
        exact lex_tr h1 h2
      · rw [if_neg e2] at h2
        rw [if_neg (by rw [e1]; exact e2), e1]
        exact h2
    · rw [if_neg e1] at h1
      by_cases e2 : y = z
      · rw [if_pos e2] at h2
        rw [if_neg (by rw [← e2]; exact e1), ← e2]
        exact h1
      · rw [if_neg e2] at h2
        have p := of_decide_eq_true h1
        have q := of_decide_eq_true h2
        rw [if_neg (by omega)]
        exact decide_eq_true (by omega)
section
variable {prog : Program} {w : World} {A : Around} {E : Value → Shared → Prop} {s : Shared}
/-- two tuples of as many ints, item by item -/
theorem lex_ints {b : Bool} {Q : Bool → Shared → Prop} : ∀ {ns ms : List Int} {vs us : List Value} (i : Nat), Vals (ns.map V.int) vs → Vals (ms.map V.int) us → ns.length = ms.length → Q (HT.lexLt ns ms) s →
    PySem.W.KatLex prog w A b false Q (vs.zip us) i s
  | [], [], _, _, _, .nil, .nil, _, q => q
  | [], _ :: _, _, _, _, _, _, h, _ => by simp at h
  | _ :: _, [], _, _, _, _, _, h, _ => by simp at h
  | n :: ns, m :: ms, _, _, i, .cons r1 t1, .cons r2 t2, h, q => by
    obtain ⟨t, rfl⟩ := r1
    obtain ⟨u, rfl⟩ := r2
    rw [List.zip_cons_cons]
    refine PySem.W.kat_cons (SeqAt.EqAt.int_int n t m u prog w _ _ ?_)
    rw [HT.lexLt_cons] at q
    by_cases e : n = m
    · rw [if_pos e] at q
      rw [show (n == m) = true by simpa using e]
      exact PySem.W.kat_yes (lex_ints (i + 1) t1 t2 (by simpa using h) q)
    · rw [if_neg e] at q
      rw [show (n == m) = false by simpa using e]
      refine PySem.W.kat_no ?_
      cases hb : (b && i == 0) with
      | true => exact oneLt_int q
      | false => exact PySem.W.kat_one _ _ (lt_int (show PySem.W.BoolBack Q (.bool (decide (n < m))) s from q))
theorem lex_pre {b : Bool} {Q : Bool → Shared → Prop} {ns ms : List Int} : ∀ {ps : List Str} {vs us : List Value} (i : Nat), Vals (ps.map V.str ++ ns.map V.int) vs → Vals (ps.map V.str ++ ms.map V.int) us → ns.length = ms.length → Q (HT.lexLt ns ms) s →
    PySem.W.KatLex prog w A b false Q (vs.zip us) i s
  | [], _, _, i, h1, h2, h, q => lex_ints i h1 h2 h q
  | p :: ps, _, _, i, .cons r1 t1, .cons r2 t2, h, q => by
    obtain ⟨t, rfl⟩ := r1
    obtain ⟨u, rfl⟩ := r2
    rw [List.zip_cons_cons]
    refine PySem.W.kat_cons (SeqAt.EqAt.str_str p t p u prog w _ _ ?_)
    rw [beq_self_eq_true]
    exact PySem.W.kat_yes (lex_pre (i + 1) t1 t2 h q)
end
/-- what is sorted: the ints behind shared texts -/
noncomputable def tupOf (ps : List Str) (ns : List Int) : PyData := .tuple (ps.map .str ++ ns.map .int)
theorem IsAll.preInts {H : Hp} {ns : List Int} : ∀ {ps : List Str} {vs : List V}, IsAll H vs (ps.map PyData.str ++ ns.map PyData.int) → vs = ps.map V.str ++ ns.map V.int
  | [], _, h => h.of_ints
  | p :: ps, _, h => by
    rw [List.map_cons, List.cons_append] at h
    cases h with
    | cons h1 t =>
    cases h1
    have := IsAll.preInts (ps := ps) t
    rw [this]
    rfl
theorem katTups_of {h : Heap} {G : Value → Prop} : ∀ (its : List Value), (∀ (i : Nat) u, its[i]? = some u → ∃ (a : Addr) (o : Obj) (zs : Array Value) (n : Nat) (f : Value), u = .ref a ∧ h.get? a = some o ∧ o.cls = .type "tuple" ∧ o.data = .seq zs n ∧ zs[0]? = some f ∧ G f) →
    ∃ fs, PySem.W.KatTups h its fs ∧ fs.length = its.length ∧ ∀ v ∈ fs, G v
  | [], _ => ⟨[], PySem.W.KatTups.nil, rfl, fun _ h => nomatch h⟩
  | u :: its, hi => by
    obtain ⟨fs, t, l, g⟩ := katTups_of its fun i u e => hi (i + 1) u (by simpa using e)
    obtain ⟨a, o, zs, n, f, rfl, h1, h2, h3, h4, h5⟩ := hi 0 u rfl
    refine ⟨f :: fs, PySem.W.KatTups.cons h1 h2 h3 h4 t, by simp [l], fun v hv => ?_⟩
    rcases List.mem_cons.mp hv with rfl | hv
    · exact h5
    · exact g v hv
theorem map_getD_range {α : Type} (d : α) (l : List α) : (List.range l.length).map (fun i => l.getD i d) = l := by
  apply List.ext_getElem?
  intro i
  rw [List.getElem?_map]
  by_cases h : i < l.length
  · rw [List.getElem?_range h]
    simp [h]
  · rw [List.getElem?_eq_none (by simpa using h), List.getElem?_eq_none (by simpa using h)]
    rfl
section
variable {X : Cx}
noncomputable def rSorted (K : PySem.W.Frag) : List V → Hp → VK → Prop := fun xs H Q => ∃ (p : Addr) (vs : List V) (ps : List Str) (nss : List (List Int)) (k : Nat), xs = [.ref p] ∧ (SqL K H p vs ∨ SqT K H p vs) ∧ IsAll H vs (nss.map (tupOf ps)) ∧ (∀ ns ∈ nss, ns.length = k) ∧ 0 < ps.length + k ∧ nss.Nodup ∧ nss.length < 64 ∧
  ∀ (l : Addr) (vs' : List V) (nss' : List (List Int)), H l = none → IsAll H vs' (nss'.map (tupOf ps)) → nss'.Perm nss → nss'.Pairwise (fun a b => HT.lexLt a b = true) → Q (.ref l) (upd H l (.lst vs'))
theorem call_sorted : CallR X (.builtin "sorted") (rSorted X.K) := by
  intro pins s σ H xs us Q I r h
  obtain ⟨p, vs, ps, nss, k, rfl, hq, ha, hk, hpos, hnd, h64, q⟩ := h
  obtain ⟨u, rfl, rx⟩ := Vals.one r
  cases (show u = Value.ref p from rx)
  obtain ⟨its, rv, hl, hz⟩ : ∃ its, Vals vs its ∧ Col X.prog X.w s p its ∧ vs.length ≤ sizeLine := by
    rcases hq with hq | hq
    · obtain ⟨its, rv, pl, hz⟩ := I.list hq
      exact ⟨its, rv, Col.list pl.isList (by rw [← rv.length]; exact hz), hz⟩
    · obtain ⟨its, rv, pl, hz⟩ := I.tuple hq
      exact ⟨its, rv, Col.tup pl (by rw [← rv.length]; exact hz), hz⟩
  have e1 : vs.length = nss.length := by rw [ha.length, List.length_map]
  have e2 : its.length = nss.length := by rw [← rv.length, e1]
  by_cases h2 : its.length < 2
  · refine sorted_few hl h2 fun D h' n hD hkeep ho => ?_
    refine ⟨.ref D, _, I.laid (t' := s.toks) (o := .lst vs) hkeep hD ⟨hz, its, n, rv, ho⟩, rfl, q D vs nss (I.hok.fresh hD) ha (List.Perm.refl _) ?_⟩
    match nss, e2, h2 with
    | [], _, _ => exact .nil
    | [a], _, _ => exact List.pairwise_singleton _ _
    | a :: b :: r, e2, h2 => simp at e2; omega
  · obtain ⟨m, F⟩ := I.fr
    refine sorted_many F (news := allNews X.base s.heap X.env.locals) news_all hl (by omega) (by omega) fun D e0 h' F' N' hD => ?_
    have hkeep : ∀ b o, b ≠ X.env.locals → s.heap.get? b = some o → h'.get? b = some o := fun b o hb e => by
      cases qb : X.base.get? b with
      | some u =>
        have := I.bk b u qb
        rw [e] at this; cases this
        exact F'.keep b _ qb
      | none => exact (N' (b, o) (List.mem_cons_of_mem _ (mem_allNews hb qb e))).1
    -- the items, one by one
    have item : ∀ (i : Nat) (ns : List Int), nss[i]? = some ns → ∃ (a : Addr) (o : Obj) (zs : List Value) (n : Nat), its.getD i Value.none = .ref a ∧ h'.get? a = some o ∧ o.cls = .type "tuple" ∧ o.data = .seq zs.toArray n ∧ Vals (ps.map V.str ++ ns.map V.int) zs := fun i ns e => by
      obtain ⟨v, ev, iv⟩ := ha.get (i := i) (d := tupOf ps ns) (by rw [List.getElem?_map, e]; rfl)
      obtain ⟨u, eu, ru⟩ := rv.get ev
      unfold tupOf at iv
      cases iv with
      | @tup a xs _ ea hxs =>
        obtain rfl := hxs.preInts
        obtain ⟨zs, rz, ⟨o, h1, h2, n, h3⟩, _⟩ := I.tuple (SqT.of ea)
        have hL : a ≠ X.env.locals := fun z => by rw [z, I.free] at ea; cases ea
        refine ⟨a, o, zs, n, ?_, hkeep a o hL h1, h2, h3, rz⟩
        rw [List.getD_eq_getElem?_getD, eu]
        exact ru
    -- the kind of the keys
    obtain ⟨T, fs, tups, hfl, hT, hTT⟩ : ∃ (T : String) (fs : List Value), PySem.W.KatTups h' its fs ∧ fs.length = its.length ∧ (∀ v ∈ fs, typeOf v = pure (Value.type T)) ∧ (Value.type T == Value.type T) = true := by
      have go : ∀ T : String, (∀ (ns : List Int) (zs : List Value), ns.length = k → Vals (ps.map V.str ++ ns.map V.int) zs → ∃ f, zs.toArray[0]? = some f ∧ typeOf f = pure (Value.type T)) →
          ∃ (fs : List Value), PySem.W.KatTups h' its fs ∧ fs.length = its.length ∧ (∀ v ∈ fs, typeOf v = pure (Value.type T)) := fun T hf =>
        katTups_of its fun i u eu => by
          have hi : i < nss.length := by rw [← e2]; exact (List.getElem?_eq_some_iff.mp eu).1
          obtain ⟨a, o, zs, n, g1, g2, g3, g4, g5⟩ := item i nss[i] (List.getElem?_eq_getElem hi)
          rw [List.getD_eq_getElem?_getD, eu] at g1
          obtain ⟨f, f1, f2⟩ := hf _ zs (hk _ (List.getElem_mem hi)) g5
          exact ⟨a, o, zs.toArray, n, f, g1, g2, g3, g4, f1, f2⟩
      cases hps : ps with
      | nil =>
        obtain ⟨fs, a, b, c⟩ := go "int" fun ns zs hn rz => by
          subst hps
          match ns, zs, rz, hn with
          | [], _, _, hn => simp at hpos; subst hn; simp at hpos
          | n :: ns, _, .cons r _, _ =>
            obtain ⟨t, rfl⟩ := r
            exact ⟨_, rfl, rfl⟩
        exact ⟨"int", fs, a, b, c, rfl⟩
      | cons p1 pr =>
        obtain ⟨fs, a, b, c⟩ := go "str" fun ns zs hn rz => by
          subst hps
          match zs, rz with
          | _, .cons r _ =>
            obtain ⟨t, rfl⟩ := r
            exact ⟨_, rfl, rfl⟩
        exact ⟨"str", fs, a, b, c, rfl⟩
    refine PySem.W.kat_kind tups (by omega) (fun v hv => PySem.W.Looks.of_pure (hT v hv)) hTT ?_
    have S : Str1 (fun i j => HT.lexLt (nss.getD i []) (nss.getD j [])) its.length := ⟨fun i j k _ _ _ a b => lex_tr a b, fun i j hi hj hne a => lex_tot (fun z => hne ?_) a, fun i j _ _ a => lex_asym a⟩
    · rw [e2]
      rw [e2] at S
      refine Run.wp (fun i j C hi hj hC => ?_) (fun pq hpq => ?_) (run_sort S (by omega))
      · show wpAny _ _ (keyLt' _ (its.getD i Value.none) (its.getD j Value.none)) C _ _
        obtain ⟨a, o, zs, n, g1, g2, g3, g4, g5⟩ := item i nss[i] (List.getElem?_eq_getElem hi)
        obtain ⟨a', o', zs', n', g1', g2', g3', g4', g5'⟩ := item j nss[j] (List.getElem?_eq_getElem hj)
        rw [g1, g1']
        refine PySem.W.kat_lt g2 g4 g2' g4' ?_
        have hn1 := hk _ (List.getElem_mem hi)
        have hn2 := hk _ (List.getElem_mem hj)
        have ez : decide (zs.toArray.size < zs'.toArray.size) = false := by
          have l1 := g5.length
          have l2 := g5'.length
          simp only [List.length_append, List.length_map] at l1 l2
          simp only [List.size_toArray]
          exact decide_eq_false (by omega)
        rw [ez]
        refine lex_pre 0 (by simpa using g5) (by simpa using g5') (by omega) ?_
        have e1' : nss.getD i [] = nss[i] := by simp [hi]
        have e2' : nss.getD j [] = nss[j] := by simp [hj]
        rw [← e1', ← e2']
        exact hC
      · obtain ⟨P, up⟩ := hpq
        refine PySem.W.KasFin.intro F' N' (.head fun x hx => Nat.ne_of_lt (hD x hx)) fun h'' c F'' N'' => ?_
        have hnD : s.heap.get? D = none := by
          cases qd : s.heap.get? D with
          | none => rfl
          | some o =>
            have hh := N' (D, _) List.mem_cons_self
            have hm := hD (D, o) (mem_allNews hh.2.1 hh.2.2 qd)
            exact absurd hm (Nat.lt_irrefl _)
        have hkeep2 : ∀ b o, b ≠ X.env.locals → s.heap.get? b = some o → h''.get? b = some o := fun b o hb e => by
          cases qb : X.base.get? b with
          | some u =>
            have := I.bk b u qb
            rw [e] at this; cases this
            exact F''.keep b _ qb
          | none => exact (N'' (b, o) (List.mem_cons_of_mem _ (mem_allNews hb qb e))).1
        have hlt : ∀ x ∈ pq.toList, x < nss.length := fun x hx => List.mem_range.mp (P.pm.mem_iff.mp hx)
        have rv2 : ∀ l : List Nat, (∀ x ∈ l, x < nss.length) → Vals (l.map fun i => vs.getD i .non) (l.map fun i => its.getD i Value.none) ∧ IsAll H (l.map fun i => vs.getD i .non) ((l.map fun i => nss.getD i []).map (tupOf ps)) := fun l => by
          induction l with
          | nil => exact fun _ => ⟨.nil, .nil⟩
          | cons x l ih =>
            intro hx
            obtain ⟨ih1, ih2⟩ := ih fun y hy => hx y (List.mem_cons_of_mem _ hy)
            have hxn := hx x List.mem_cons_self
            obtain ⟨v, ev, iv⟩ := ha.get (i := x) (d := tupOf ps nss[x]) (by rw [List.getElem?_map, List.getElem?_eq_getElem hxn]; rfl)
            obtain ⟨u, eu, ru⟩ := rv.get ev
            have a1 : vs.getD x .non = v := by rw [List.getD_eq_getElem?_getD, ev]; rfl
            have a2 : its.getD x Value.none = u := by rw [List.getD_eq_getElem?_getD, eu]; rfl
            have a3 : nss.getD x [] = nss[x] := by simp [hxn]
            simp only [List.map_cons, a1, a2, a3]
            exact ⟨.cons ru ih1, .cons iv ih2⟩
        obtain ⟨rv3, ia3⟩ := rv2 pq.toList hlt
        have ho := (N'' (D, _) List.mem_cons_self).1
        have hpl : pq.toList.length = nss.length := by rw [Array.length_toList]; exact P.sz
        refine ⟨.ref D, _, I.laidBut (t' := s.toks) hkeep2 F.ns F''.ns hnD rv3 (by rw [List.length_map, hpl, sizeLine_eq]; omega) ho, rfl, q D _ _ (I.none_of hnD) ia3 ?_ ?_⟩
        · have := P.pm.map fun i => nss.getD i []
          rw [map_getD_range] at this
          exact this
        · rw [List.pairwise_iff_getElem]
          intro i j hi hj hij
          simp only [List.length_map] at hi hj
          have := up i j hij (by rw [← hpl]; exact hj)
          have z : ∀ x (hx : x < pq.toList.length), pq.getD x 0 = pq.toList[x] := fun x hx => by
            have hx' : x < pq.size := by simpa using hx
            simp [Array.getD, hx']
          rw [z i hi, z j hj] at this
          simpa using this
    · rw [e2] at hi hj
      have e1' : nss.getD i [] = nss[i] := by simp [hi]
      have e2' : nss.getD j [] = nss[j] := by simp [hj]
      rw [e1', e2'] at z
      exact (List.getElem_inj hnd).mp z
end
end L2

set_option Elab.async false
set_option linter.all false
set_option maxRecDepth 100000
set_option maxHeartbeats 1000000
namespace L2
open PySem PySem.Spec PyProof.Rows
theorem bt_len : bootBuiltins "len" = some (.builtin "len") := by decide +kernel
theorem bt_isinstance : bootBuiltins "isinstance" = some (.builtin "isinstance") := by decide +kernel
theorem bt_all : bootBuiltins "all" = some (.builtin "all") := by decide +kernel
theorem bt_sorted : bootBuiltins "sorted" = some (.builtin "sorted") := by decide +kernel
theorem bt_tuple : bootBuiltins "tuple" = some (.type "tuple") := by decide +kernel
theorem bt_list : bootBuiltins "list" = some (.type "list") := by decide +kernel
theorem bt_int : bootBuiltins "int" = some (.type "int") := by decide +kernel
theorem bt_bool : bootBuiltins "bool" = some (.type "bool") := by decide +kernel
theorem bt_range : bootBuiltins "range" = some (.type "range") := by decide +kernel
theorem pe_gint {X : Cx} {x : Str} {n : Int} {pos : Pos} (hg : Gl X x) (hm : ∃ tk, X.mg x = some (.int n tk)) (hd : (x == ("__debug__" : Str)) = false := by decide) : PE X (.Name x pos) (tC (.int n)) :=
  fun _ _ _ H _ I h => let ⟨tk, e⟩ := hm; ld_glob I hg e ⟨.int n, H, I, ⟨tk, rfl⟩, h⟩ hd
/-! ### an item of a list or a tuple -/
noncomputable def rIxA (K : PySem.W.Frag) : R2 := fun x y H Q => ∃ p xs i v, x = .ref p ∧ y = .int i ∧ (SqL K H p xs ∨ SqT K H p xs) ∧ atI xs i = some v ∧ Q v H
theorem ix_any {X : Cx} : IxR X (rIxA X.K) := by
  intro value slice pins s σ H x y v u Q I rx ry h hs
  obtain ⟨p, xs, i, w, e1, e2, hq, ha, q⟩ := h
  rcases hq with hq | hq
  · exact ix_list value slice pins s σ H x y v u Q I rx ry ⟨p, xs, i, w, e1, e2, hq, ha, q⟩ hs
  · exact ix_tup value slice pins s σ H x y v u Q I rx ry ⟨p, xs, i, w, e1, e2, hq, ha, q⟩ hs
/-! ### the built-in calls, each reading by a name -/
noncomputable def rIsinst : List V → Hp → VK → Prop := fun xs H Q => ∃ x T d, xs = [x, .ty T] ∧ T ∈ (["bool", "int", "tuple", "list", "str", "dict"] : List String) ∧ Is H x d ∧ Q (.bl (isTy T d)) H
noncomputable def rLen (K : PySem.W.Frag) : List V → Hp → VK → Prop := fun xs H Q => ∃ p ys, xs = [.ref p] ∧ (SqL K H p ys ∨ SqT K H p ys) ∧ Q (.int ys.length) H
noncomputable def rAll (K : PySem.W.Frag) : List V → Hp → VK → Prop := fun xs H Q => ∃ (p : Addr) (bs : List Bool), xs = [.ref p] ∧ SqL K H p (bs.map V.bl) ∧ Q (.bl (bs.all id)) H
noncomputable def rAny (K : PySem.W.Frag) : List V → Hp → VK → Prop := fun xs H Q => ∃ (p : Addr) (bs : List Bool), xs = [.ref p] ∧ SqL K H p (bs.map V.bl) ∧ Q (.bl (bs.any id)) H
noncomputable def rIsN : R2 := fun x y H Q => y = .non ∧ Q (.bl (decide (x = .non))) H
noncomputable def rNotN : R2 := fun x y H Q => y = .non ∧ Q (.bl (!decide (x = .non))) H
section
variable {X : Cx}
theorem c_isinst : CallR X (.builtin "isinstance") rIsinst := call_isinst
theorem c_len : CallR X (.builtin "len") (rLen X.K) := call_len_seq
theorem c_all (hc : X.calm = true) : CallR X (.builtin "all") (rAll X.K) := call_all hc
noncomputable def rTupOf (K : PySem.W.Frag) : List V → Hp → VK → Prop := fun xs H Q => ∃ p ys, xs = [.ref p] ∧ ((SqL K H p ys ∧ ∀ l, H l = none → Q (.ref l) (upd H l (.tup ys))) ∨ (SqT K H p ys ∧ Q (.ref p) H))
noncomputable def rLstOf (K : PySem.W.Frag) : List V → Hp → VK → Prop := fun xs H Q => ∃ p ys, xs = [.ref p] ∧ (SqL K H p ys ∨ SqT K H p ys) ∧ ∀ l, H l = none → Q (.ref l) (upd H l (.lst ys))
theorem c_list : CallR X (.type "list") (rLstOf X.K) := call_list_of
theorem c_tuple : CallR X (.type "tuple") (rTupOf X.K) := call_tuple_of
noncomputable def rMax2 : List V → Hp → VK → Prop := fun xs H Q => ∃ i j : Int, xs = [.int i, .int j] ∧ Q (.int (if j > i then j else i)) H
noncomputable def rInt1 : List V → Hp → VK → Prop := fun xs H Q => (∃ i, xs = [.int i] ∧ Q (.int i) H) ∨ ∃ k, xs = [.bl k] ∧ Q (.int (if k then 1 else 0)) H
end
@[reducible] def isBoolD : PyData → Bool | .bool _ => true | _ => false
@[reducible] def isIntD : PyData → Bool | .bool _ => true | .int _ => true | _ => false
@[reducible] def isTupD : PyData → Bool | .tuple _ => true | _ => false
@[reducible] def isLstD : PyData → Bool | .list _ => true | _ => false
@[reducible] def isStrD : PyData → Bool | .str _ => true | _ => false
/-! ### the readings, step by step -/
section
variable {σ : St} {H : Hp} {Q : VK} {D : Ends} {K : PySem.W.Frag}
theorem rd_seq {t u : TS} (h : t { D with nx := u D } σ H) : tSeq t u D σ H := h
theorem rd_next (h : D.nx σ H) : tNext D σ H := h
theorem rd_ifS {c : TT} {t u : TS} (h : c σ H fun b H1 => if b = true then t D σ H1 else u D σ H1) : tIfS c t u D σ H := h
theorem rd_ret {te : TE} (h : te σ H D.rt) : tRet te D σ H := h
theorem rd_drop {te : TE} (h : te σ H fun _ H1 => D.nx σ H1) : tDrop te D σ H := h
theorem rd_asg {te : TE} {g : TG} (h : te σ H fun x H1 => g x σ H1 D.nx) : tAsg te g D σ H := h
theorem rd_gname {i : Nat} {v : V} {P : St → Hp → Prop} (h : P (σ.set i (some v)) H) : gName i v σ H P := h
theorem rd_var {i : Nat} {v : V} (e : σ[i]? = some (some v)) (h : Q v H) : tVar i σ H Q := ⟨v, e, h⟩
theorem rd_C {v : V} (h : Q v H) : tC v σ H Q := h
theorem rd_test {te : TE} {P : Bool → Hp → Prop} (h : te σ H fun x H' => ∃ k, x = .bl k ∧ P k H') : tTest te σ H P := h
theorem rd_B {te : TE} {P : Bool → Hp → Prop} (h : te σ H fun x H' => ∃ k, x = .bl k ∧ P k H') : tB te σ H P := h
theorem rd_bl {b : Bool} {P : Bool → Hp → Prop} (h : P b H) : ∃ k, V.bl b = .bl k ∧ P k H := ⟨b, rfl, h⟩
theorem rd_op {r : R2} {ta tb : TE} (h : ta σ H fun x H1 => tb σ H1 fun y H2 => r x y H2 Q) : tOp r ta tb σ H Q := h
theorem rd_un {r : V → Hp → VK → Prop} {ta : TE} (h : ta σ H fun x H1 => r x H1 Q) : tUn r ta σ H Q := h
theorem rd_I0 {g : Int → Int → V} {i j : Int} (h : Q (g i j) H) : rI0 g (.int i) (.int j) H Q := ⟨i, j, rfl, rfl, h⟩
theorem rd_I {C : Int → Int → Prop} {g : Int → Int → V} {i j : Int} (hc : C i j) (h : Q (g i j) H) : rI C g (.int i) (.int j) H Q := ⟨i, j, rfl, rfl, hc, h⟩
theorem rd_and {t u : TT} {P : Bool → Hp → Prop} (h : t σ H fun c H1 => if c = true then u σ H1 P else P false H1) : tAnd t u σ H P := h
theorem rd_or {t u : TT} {P : Bool → Hp → Prop} (h : t σ H fun c H1 => if c = true then P true H1 else u σ H1 P) : tOr t u σ H P := h
theorem rd_not {t : TT} {P : Bool → Hp → Prop} (h : t σ H fun c H1 => P (!c) H1) : tNot t σ H P := h
theorem rd_andV {ta tb : TE} (h : ta σ H fun x H1 => ∃ c, x = .bl c ∧ if c = true then tb σ H1 Q else Q (.bl false) H1) : tAndV ta tb σ H Q := h
theorem rd_orV {ta tb : TE} (h : ta σ H fun x H1 => ∃ c, x = .bl c ∧ if c = true then Q (.bl true) H1 else tb σ H1 Q) : tOrV ta tb σ H Q := h
theorem rd_notV {ta : TE} (h : ta σ H fun x H1 => ∃ c, x = .bl c ∧ Q (.bl (!c)) H1) : tNotV ta σ H Q := h
theorem rd_blE {b : Bool} {P : Bool → Prop} (h : P b) : ∃ c, V.bl b = .bl c ∧ P c := ⟨b, rfl, h⟩
theorem rd_nil {P : List V → Hp → Prop} (h : P [] H) : tNil σ H P := h
theorem rd_cons {ta : TE} {tr : TA} {P : List V → Hp → Prop} (h : ta σ H fun x H1 => tr σ H1 fun xs H2 => P (x :: xs) H2) : tCons ta tr σ H P := h
theorem rd_tup {t : TA} (h : t σ H fun xs H1 => xs.length ≤ sizeLine ∧ ∀ p, H1 p = none → Q (.ref p) (upd H1 p (.tup xs))) : tTup t σ H Q := h
theorem rd_lst {t : TA} (h : t σ H fun xs H1 => xs.length ≤ sizeLine ∧ ∀ p, H1 p = none → Q (.ref p) (upd H1 p (.lst xs))) : tLst t σ H Q := h
theorem rd_call {sp : Sp} {dvs : List V} {E : XK} {t : TA} (h : t σ H fun vs H1 => sp (vs ++ dvs) H1 Q E) : tCall sp dvs E t σ H Q := h
theorem rd_cb {r : List V → Hp → VK → Prop} {t : TA} (h : t σ H fun vs H1 => r vs H1 Q) : tCB r t σ H Q := h
theorem rd_ixT {p : Addr} {xs : List V} {i : Int} {v : V} (e : H p = some (.tup xs)) (a : atI xs i = some v) (h : Q v H) : rIxA K (.ref p) (.int i) H Q := ⟨p, xs, i, v, rfl, rfl, .inr (SqT.of e), a, h⟩
theorem rd_ixL {p : Addr} {xs : List V} {i : Int} {v : V} (e : H p = some (.lst xs)) (a : atI xs i = some v) (h : Q v H) : rIxA K (.ref p) (.int i) H Q := ⟨p, xs, i, v, rfl, rfl, .inl (SqL.of e), a, h⟩
theorem rd_chain {r r' : R2} {ta tb tc : TE} (h : ta σ H fun x H1 => tb σ H1 fun y H2 => r x y H2 fun z H3 => ∃ k, z = .bl k ∧ (if k = true then tc σ H3 fun w' H4 => r' y w' H4 Q else Q (.bl false) H3)) : tChain r r' ta tb tc σ H Q := h
theorem ifT {b : Bool} {A B : Prop} (h : b = true) (x : A) : if b = true then A else B := by rw [if_pos h]; exact x
theorem ifF {b : Bool} {A B : Prop} (h : b = false) (x : B) : if b = true then A else B := by rw [if_neg (by rw [h]; exact Bool.false_ne_true)]; exact x
theorem ifB {b : Bool} {A B : Prop} (h1 : b = true → A) (h0 : b = false → B) : if b = true then A else B := by
  cases b with
  | true => rw [if_pos rfl]; exact h1 rfl
  | false => rw [if_neg Bool.false_ne_true]; exact h0 rfl
theorem rd_isN {x : V} (h : Q (.bl (decide (x = .non))) H) : rIsN x .non H Q := ⟨rfl, h⟩
theorem rd_notN {x : V} (h : Q (.bl (!decide (x = .non))) H) : rNotN x .non H Q := ⟨rfl, h⟩
theorem rd_isBool {x : V} {d : PyData} (hx : Is H x d) (h : Q (.bl (isBoolD d)) H) : rIsinst [x, .ty "bool"] H Q := ⟨x, "bool", d, rfl, by decide, hx, by cases d <;> exact h⟩
theorem rd_isInt {x : V} {d : PyData} (hx : Is H x d) (h : Q (.bl (isIntD d)) H) : rIsinst [x, .ty "int"] H Q := ⟨x, "int", d, rfl, by decide, hx, by cases d <;> exact h⟩
theorem rd_isTup {x : V} {d : PyData} (hx : Is H x d) (h : Q (.bl (isTupD d)) H) : rIsinst [x, .ty "tuple"] H Q := ⟨x, "tuple", d, rfl, by decide, hx, by cases d <;> exact h⟩
theorem rd_isLst {x : V} {d : PyData} (hx : Is H x d) (h : Q (.bl (isLstD d)) H) : rIsinst [x, .ty "list"] H Q := ⟨x, "list", d, rfl, by decide, hx, by cases d <;> exact h⟩
theorem rd_isStr {x : V} {d : PyData} (hx : Is H x d) (h : Q (.bl (isStrD d)) H) : rIsinst [x, .ty "str"] H Q := ⟨x, "str", d, rfl, by decide, hx, by cases d <;> exact h⟩
theorem ifNT {A B : Prop} (h : B) : if (!true) = true then A else B := iteF h
theorem ifNF {A B : Prop} (h : A) : if (!false) = true then A else B := iteT h
theorem rd_all {p : Addr} {bs : List Bool} (e : H p = some (.lst (bs.map V.bl))) (h : Q (.bl (bs.all id)) H) : rAll K [.ref p] H Q := ⟨p, bs, rfl, SqL.of e, h⟩
theorem rd_any {p : Addr} {bs : List Bool} (e : H p = some (.lst (bs.map V.bl))) (h : Q (.bl (bs.any id)) H) : rAny K [.ref p] H Q := ⟨p, bs, rfl, SqL.of e, h⟩
theorem rd_max2 {i j : Int} (h : Q (.int (if j > i then j else i)) H) : rMax2 [.int i, .int j] H Q := ⟨i, j, rfl, h⟩
theorem rd_int1 {k : Bool} (h : Q (.int (if k then 1 else 0)) H) : rInt1 [.bl k] H Q := .inr ⟨k, rfl, h⟩
theorem rd_tupL {p : Addr} {ys : List V} (e : H p = some (.lst ys)) (h : ∀ l, H l = none → Q (.ref l) (upd H l (.tup ys))) : rTupOf K [.ref p] H Q := ⟨p, ys, rfl, .inl ⟨SqL.of e, h⟩⟩
theorem rd_eqD {neg : Bool} {x y : V} {d e : PyData} (hx : Is H x d) (hy : Is H y e) (od : okD d) (oe : okD e) (h : Q (.bl (if neg then !PyData.eqv d e else PyData.eqv d e)) H) : rEqD neg x y H Q := ⟨d, e, hx, hy, od, oe, h⟩
theorem rd_eqI {x y : Int} (h : Q (.bl (x == y)) H) : rEqD false (.int x) (.int y) H Q := ⟨.int x, .int y, .int x, .int y, ⟨rfl, Nat.zero_le _⟩, ⟨rfl, Nat.zero_le _⟩, h⟩
theorem rd_neI {x y : Int} (h : Q (.bl (!(x == y))) H) : rEqD true (.int x) (.int y) H Q := ⟨.int x, .int y, .int x, .int y, ⟨rfl, Nat.zero_le _⟩, ⟨rfl, Nat.zero_le _⟩, h⟩
theorem rd_eqB {x y : Bool} (h : Q (.bl (x == y)) H) : rEqD false (.bl x) (.bl y) H Q := ⟨.bool x, .bool y, .bl x, .bl y, ⟨rfl, Nat.zero_le _⟩, ⟨rfl, Nat.zero_le _⟩, h⟩
theorem rd_neB {x y : Bool} (h : Q (.bl (!(x == y))) H) : rEqD true (.bl x) (.bl y) H Q := ⟨.bool x, .bool y, .bl x, .bl y, ⟨rfl, Nat.zero_le _⟩, ⟨rfl, Nat.zero_le _⟩, h⟩
theorem rd_lenT {p : Addr} {xs : List V} (e : H p = some (.tup xs)) (h : Q (.int xs.length) H) : rLen K [.ref p] H Q := ⟨p, xs, rfl, .inr (SqT.of e), h⟩
theorem rd_lenL {p : Addr} {xs : List V} (e : H p = some (.lst xs)) (h : Q (.int xs.length) H) : rLen K [.ref p] H Q := ⟨p, xs, rfl, .inl (SqL.of e), h⟩
end
end L2

set_option Elab.async false
set_option linter.all false
set_option maxRecDepth 100000
set_option maxHeartbeats 1000000
namespace L2
open PySem PySem.Spec PyProof.Rows
section
variable {σ : St} {H : Hp} {Q : VK} {D : Ends} {K : PySem.W.Frag} {R : It → Hp → Prop}
theorem rd_for {wi : TI} {g : TG} {tb : TS} (h : wi σ H fun J H1 => ∃ W : Nat → Nat → St → Hp → Prop, (∃ m, W 0 m σ H1) ∧ ∀ i m σ H, W i m σ H →
  (J.stop i H ∧ D.nx σ H) ∨ (J.go i H ∧ ∃ N : St → Hp → Prop, (∀ σ' H', N σ' H' → ∃ m', m' < m ∧ W (i + 1) m' σ' H') ∧ ∀ x H', J.yld i H x H' → g x σ H' fun σ2 H2 => tb { D with nx := N, ct := N, bk := D.nx } σ2 H2)) : tFor wi g tb D σ H := h
theorem rd_lc {wi : TI} {fm : List (Option Nat)} {g : TG} {tt : TT} {te : TE} (h : wi σ H fun J H1 => ∃ W : Nat → Nat → List V → Hp → Prop, (∃ m, W 0 m [] H1) ∧ ∀ i m ys H, W i m ys H →
  (J.stop i H ∧ ∀ p, H p = none → Q (.ref p) (upd H p (.lst ys))) ∨
  (J.go i H ∧ ys.length < sizeLine ∧ ∃ N : List V → Hp → Prop, (∀ ys' H', N ys' H' → ∃ m', m' < m ∧ W (i + 1) m' ys' H') ∧
    ∀ x H', J.yld i H x H' → g x (fmSt fm σ) H' fun σ2 H2 => tt σ2 H2 fun ok H3 => if ok = true then te σ2 H3 fun v H4 => N (ys ++ [v]) H4 else N ys H3)) : tLC wi fm g tt te σ H Q := h
theorem rd_rng1 {ta : TA} (h : ta σ H fun vs H1 => ∃ j : Int, vs = [.int j] ∧ -(2 ^ 62) ≤ j ∧ j < 2 ^ 62 ∧ R (Itr 0 j.toNat) H1) : iRng1 ta σ H R := h
theorem rd_itup {tl : TE} (h : tl σ H fun x H1 => ∃ a, x = .ref a ∧ (∃ xs, SqT K H1 a xs) ∧ R (Itt K a) H1) : iTup K tl σ H R := h
theorem rd_ilst {tl : TE} (h : tl σ H fun x H1 => ∃ a, x = .ref a ∧ (∃ xs, SqL K H1 a xs) ∧ R (Itl K a) H1) : iList K tl σ H R := h
theorem rd_yes {P : Bool → Hp → Prop} (h : P true H) : tYes σ H P := h
theorem rd_gtup {n : Nat} {t : TGs} {a : Addr} {xs : List V} {P : St → Hp → Prop} (e : H a = some (.tup xs)) (l : xs.length = n) (h : t xs σ H P) : gTup K n t (.ref a) σ H P := ⟨a, xs, rfl, SqT.of e, l, h⟩
theorem rd_gcons {t : TG} {u : TGs} {v : V} {r : List V} {P : St → Hp → Prop} (h : t v σ H fun σ' H' => u r σ' H' P) : gCons t u (v :: r) σ H P := ⟨v, r, rfl, h⟩
theorem rd_gnil {P : St → Hp → Prop} (h : P σ H) : gNil [] σ H P := ⟨rfl, h⟩
end
/-! ### heaps that only grew -/
theorem Same.upd {H : Hp} {l : Addr} {o : HO} (h : H l = none) : Same H (upd H l o) := fun b u e => by rw [upd_ne (ne_of_none e h)]; exact e
theorem Same.tup {H H' : Hp} (e : Same H H') {a : Addr} {xs : List V} (h : H a = some (.tup xs)) : H' a = some (.tup xs) := e _ _ h
/-- a new pair -/
theorem Is.pair {H : Hp} {p : Addr} {i j : Int} : Is (upd H p (.tup [.int i, .int j])) (.ref p) (.tuple [.int i, .int j]) := .tup upd_same (.cons (.int i) (.cons (.int j) .nil))
end L2

set_option Elab.async false
set_option linter.all false
set_option maxRecDepth 100000
set_option maxHeartbeats 1000000
namespace L2
open PySem PySem.Spec PyProof.Rows
/-! ### the same rules, the text's own part named: within a block it must be the frame's -/
section
variable {X : Cx}
theorem k_ix (K : PySem.W.Frag) (h : X.K = K := by rfl) : IxR X (rIxA K) := h ▸ ix_any
theorem k_len (K : PySem.W.Frag) (h : X.K = K := by rfl) : CallR X (.builtin "len") (rLen K) := h ▸ c_len
theorem k_all (K : PySem.W.Frag) (hc : X.calm = true := by rfl) (h : X.K = K := by rfl) : CallR X (.builtin "all") (rAll K) := h ▸ c_all hc
theorem k_tuple (K : PySem.W.Frag) (h : X.K = K := by rfl) : CallR X (.type "tuple") (rTupOf K) := h ▸ c_tuple
theorem k_list (K : PySem.W.Frag) (h : X.K = K := by rfl) : CallR X (.type "list") (rLstOf K) := h ▸ c_list
theorem k_sorted (K : PySem.W.Frag) (h : X.K = K := by rfl) : CallR X (.builtin "sorted") (rSorted K) := h ▸ call_sorted
theorem k_ltT (K : PySem.W.Frag) (hu : X.A.units < cLine) (h : X.K = K := by rfl) : OpR X (compareOp .Lt) (rLtT K) := h ▸ op_ltT hu
theorem k_slT (K : PySem.W.Frag) (h : X.K = K := by rfl) : SlR X (rSlT K) := h ▸ sl_tup
theorem k_ptup (K : PySem.W.Frag) {tg l : Expr} {tl : TE} (hl : PE X l tl) (h : X.K = K := by rfl) : PI X tg l (iTup K tl) := h ▸ pi_tup hl
theorem k_plst (K : PySem.W.Frag) {tg l : Expr} {tl : TE} (hl : PE X l tl) (h : X.K = K := by rfl) : PI X tg l (iList K tl) := h ▸ pi_list hl
theorem k_gtup (K : PySem.W.Frag) {pos : Pos} {es : List Expr} {k : Nat} {t : TGs} {n : Nat} (hc : X.calm = true) (hh : PGs X es t)
    (hn : (assignEach es X.env).length = n := by rfl) (hst : (assignEach es X.env).findIdx? (·.1) = none := by rfl) (h : X.K = K := by rfl) : PG X (.Tuple es k pos) (gTup K n t) := h ▸ pg_tup hc hh hn hst
theorem k_bm (K : PySem.W.Frag) {o e : Expr} {es : List Expr} {to : TE} {t : TA} {name : Str} {apos cpos : Pos} {T id : String} {r : V → List V → Hp → VK → Prop} (pa : PlainAttrs T) (slot : Slot T name id) (hty : typeOf (.builtin id) = pure (.type "method_descriptor")) (hm : MtR X id r) (ho : PE X o to) (ha : PA X (e :: es) t)
    (hbase : attributeBase o name X.env (eval o X.env) = eval o X.env := by rfl)
    (hfew : ((backTo cpos (starEach (e :: es) X.env)).all (fun x => !x.1) && (backToKw cpos (keywordEach [] X.env)).all (fun x => x.1.isSome)
      && decide ((e :: es).length + ([] : List Keyword).length + (if ([] : List Keyword).isEmpty then 0 else 1) < 30)) = true := by rfl)
    (hline : (apos.endLine == cpos.line) = true := by rfl) (hs : starEach (e :: es) X.env = (false, eval e X.env) :: starEach es X.env := by rfl) (hplain : (backTo cpos (starEach es X.env)).any (·.1) = false := by rfl) (h : X.K = K := by rfl) :
    PE X (.Call (.Attribute o name apos) (e :: es) [] cpos) (tBM K T r to t) := h ▸ pe_bm pa slot hty hm ho ha hbase hfew hline hs hplain
end
section
variable {σ : St} {H : Hp} {Q : VK} {D : Ends} {K : PySem.W.Frag}
theorem rd_ltT {a b : Addr} {i j k l : Int} (h1 : H a = some (.tup [.int i, .int j])) (h2 : H b = some (.tup [.int k, .int l])) (h : Q (.bl (HT.lexLt [i, j] [k, l])) H) : rLtT K (.ref a) (.ref b) H Q :=
  ⟨a, b, [i, j], [k, l], rfl, rfl, SqT.of h1, SqT.of h2, h⟩
theorem rd_bm {T : String} {r : V → List V → Hp → VK → Prop} {to : TE} {t : TA} (h : to σ H fun x H1 => tyV K T x H1 ∧ t σ H1 fun xs H2 => r x xs H2 Q) : tBM K T r to t σ H Q := h
/-- xs.append(v) -/
theorem rd_append {l : Addr} {xs : List V} {v : V} (e : H l = some (.lst xs)) (hz : xs.length < sizeLine) (h : Q .non (upd H l (.lst (xs ++ [v])))) : rAppend (.ref l) [v] H Q := ⟨l, xs, v, rfl, rfl, e, hz, h⟩
theorem tyV_lst {l : Addr} {xs : List V} (e : H l = some (.lst xs)) : tyV K "list" (.ref l) H := .inl ⟨rfl, _, SqL.of e⟩
end
/-! ### is None -/
theorem if_nn {A B : Prop} (h : A) : if decide (V.non = V.non) = true then A else B := by rw [decide_eq_true rfl]; exact iteT h
theorem if_rn {a : Addr} {A B : Prop} (h : B) : if decide (V.ref a = V.non) = true then A else B := by rw [decide_eq_false (fun z => nomatch z)]; exact iteF h
theorem if_in {a : Int} {A B : Prop} (h : B) : if decide (V.int a = V.non) = true then A else B := by rw [decide_eq_false (fun z => nomatch z)]; exact iteF h
theorem if_nnN {A B : Prop} (h : B) : if (!decide (V.non = V.non)) = true then A else B := by rw [decide_eq_true rfl]; exact iteF h
theorem if_rnN {a : Addr} {A B : Prop} (h : A) : if (!decide (V.ref a = V.non)) = true then A else B := by rw [decide_eq_false (fun z => nomatch z)]; exact iteT h
theorem if_inN {a : Int} {A B : Prop} (h : A) : if (!decide (V.int a = V.non)) = true then A else B := by rw [decide_eq_false (fun z => nomatch z)]; exact iteT h
section
variable {σ : St} {H : Hp} {Q : VK} {D : Ends}
theorem rd_while {c : TT} {tb : TS} (h : ∃ W : Nat → St → Hp → Prop, (∃ m, W m σ H) ∧ ∀ m σ H, W m σ H → c σ H fun b H1 => if b = true then ∃ N : St → Hp → Prop, (∀ σ' H', N σ' H' → ∃ m', m' < m ∧ W m' σ' H') ∧ tb { D with nx := N, ct := N, bk := D.nx } σ H1 else D.nx σ H1) : tWhile c tb D σ H := h
theorem rd_gsub {to ti : TE} {t : TSet} {v : V} {P : St → Hp → Prop} (h : to σ H fun o H1 => ti σ H1 fun i H2 => t o i v H2 fun H3 => P σ H3) : gSub to ti t v σ H P := h
theorem rep_one {α : Type} (x : α) : ∀ n : Nat, (List.replicate n [x]).flatten = List.replicate n x
  | 0 => rfl
  | n + 1 => by rw [List.replicate_succ, List.flatten_cons, rep_one x n]; rfl
theorem rd_rep {l : Addr} {v : V} {n : Nat} (e : H l = some (.lst [v])) (hn : n ≤ 1000) (h : ∀ p, H p = none → Q (.ref p) (upd H p (.lst (List.replicate n v)))) : rRep (.ref l) (.int n) H Q :=
  ⟨l, n, [v], rfl, rfl, e, by omega, by omega, by rw [Int.toNat_natCast]; have := small1000 hn; simp; omega, fun p hp => by rw [Int.toNat_natCast, rep_one]; exact h p hp⟩
end
/-! ### loops and comprehensions by a word, whatever the body reads -/
section
variable {H : Hp} {K : PySem.W.Frag}
theorem lp_range {lo : Int} {n : Nat} {G : List V → Hp → Prop} {B : (List V → Hp → Prop) → List V → V → Hp → Prop} (hn : n ≤ sizeLine) (Pv : Nat → List V → Hp → Prop) (h0 : Pv 0 [] H) (hlen : ∀ i ys H, Pv i ys H → ys.length ≤ i)
    (hs : ∀ i ys H, i < n → Pv i ys H → B (Pv (i + 1)) ys (.int (lo + i)) H) (hd : ∀ ys H, Pv n ys H → G ys H) :
    ∃ W : Nat → Nat → List V → Hp → Prop, (∃ m, W 0 m [] H) ∧ ∀ i m ys H, W i m ys H → ((Itr lo n).stop i H ∧ G ys H) ∨ ((Itr lo n).go i H ∧ ys.length < sizeLine ∧
      ∃ N : List V → Hp → Prop, (∀ ys' H', N ys' H' → ∃ m', m' < m ∧ W (i + 1) m' ys' H') ∧ ∀ x H', (Itr lo n).yld i H x H' → B N ys x H') := by
  refine ⟨fun i m ys H => m = n - i ∧ i ≤ n ∧ Pv i ys H, ⟨n, by simp, Nat.zero_le _, h0⟩, ?_⟩
  rintro i m ys H ⟨rfl, hi, p⟩
  have hl := hlen i ys H p
  by_cases hlt : i < n
  · refine .inr ⟨hlt, by omega, Pv (i + 1), fun ys' H' p' => ⟨n - (i + 1), by omega, rfl, hlt, p'⟩, fun x H' y => ?_⟩
    obtain ⟨e, y⟩ := y
    subst e y
    exact hs i ys _ hlt p
  · have e : i = n := by omega
    subst e
    exact .inl ⟨Nat.le_refl _, hd ys H p⟩
theorem lp_tup {a : Addr} {xs : List V} {G : List V → Hp → Prop} {B : (List V → Hp → Prop) → List V → V → Hp → Prop} (hn : xs.length ≤ sizeLine) (Pv : Nat → List V → Hp → Prop) (h0 : Pv 0 [] H) (hlen : ∀ i ys H, Pv i ys H → ys.length ≤ i)
    (hl : ∀ i ys H, i ≤ xs.length → Pv i ys H → SqT K H a xs) (hs : ∀ i x ys H, xs[i]? = some x → Pv i ys H → B (Pv (i + 1)) ys x H) (hd : ∀ ys H, Pv xs.length ys H → G ys H) :
    ∃ W : Nat → Nat → List V → Hp → Prop, (∃ m, W 0 m [] H) ∧ ∀ i m ys H, W i m ys H → ((Itt K a).stop i H ∧ G ys H) ∨ ((Itt K a).go i H ∧ ys.length < sizeLine ∧
      ∃ N : List V → Hp → Prop, (∀ ys' H', N ys' H' → ∃ m', m' < m ∧ W (i + 1) m' ys' H') ∧ ∀ x H', (Itt K a).yld i H x H' → B N ys x H') := by
  refine ⟨fun i m ys H => m = xs.length - i ∧ i ≤ xs.length ∧ Pv i ys H, ⟨xs.length, by simp, Nat.zero_le _, h0⟩, ?_⟩
  rintro i m ys H ⟨rfl, hi, p⟩
  have hly := hlen i ys H p
  have q := hl i ys H hi p
  by_cases hlt : i < xs.length
  · refine .inr ⟨⟨xs, xs[i], q, by simp [hlt]⟩, by omega, Pv (i + 1), fun ys' H' p' => ⟨xs.length - (i + 1), by omega, rfl, hlt, p'⟩, fun x H' y => ?_⟩
    obtain ⟨e, y⟩ := y
    subst e
    exact hs i x ys _ (y xs q) p
  · have e : i = xs.length := by omega
    subst e
    exact .inl ⟨⟨xs, q, Nat.le_refl _⟩, hd ys H p⟩
theorem fp_range {σ : St} {lo : Int} {n : Nat} {G : St → Hp → Prop} {B : (St → Hp → Prop) → V → St → Hp → Prop} (Pv : Nat → St → Hp → Prop) (h0 : Pv 0 σ H) (hs : ∀ i σ H, i < n → Pv i σ H → B (Pv (i + 1)) (.int (lo + i)) σ H) (hd : ∀ σ H, Pv n σ H → G σ H) :
    ∃ W : Nat → Nat → St → Hp → Prop, (∃ m, W 0 m σ H) ∧ ∀ i m σ H, W i m σ H → ((Itr lo n).stop i H ∧ G σ H) ∨ ((Itr lo n).go i H ∧
      ∃ N : St → Hp → Prop, (∀ σ' H', N σ' H' → ∃ m', m' < m ∧ W (i + 1) m' σ' H') ∧ ∀ x H', (Itr lo n).yld i H x H' → B N x σ H') := by
  refine ⟨fun i m σ H => m = n - i ∧ i ≤ n ∧ Pv i σ H, ⟨n, by simp, Nat.zero_le _, h0⟩, ?_⟩
  rintro i m σ H ⟨rfl, hi, p⟩
  by_cases hlt : i < n
  · refine .inr ⟨hlt, Pv (i + 1), fun σ' H' p' => ⟨n - (i + 1), by omega, rfl, hlt, p'⟩, fun x H' y => ?_⟩
    obtain ⟨e, y⟩ := y
    subst e y
    exact hs i σ _ hlt p
  · have e : i = n := by omega
    subst e
    exact .inl ⟨Nat.le_refl _, hd σ H p⟩
end
end L2

set_option Elab.async false
set_option linter.all false
set_option maxRecDepth 100000
set_option maxHeartbeats 1000000
namespace L2
open PySem PySem.Spec PyProof.Rows
/-! ### a list of ints == [] -/
noncomputable def rEqNil (K : PySem.W.Frag) : R2 := fun x y H Q => ∃ p q ns, x = .ref p ∧ y = .ref q ∧ SqL K H p (ns.map V.int) ∧ SqL K H q [] ∧ Q (.bl (decide (ns = []))) H
theorem op_eqNil {X : Cx} (hu : X.A.units < cLine) : OpR X (compareOp .Eq) (rEqNil X.K) := by
  intro pins s σ H x y v u Q I rx ry h
  obtain ⟨p, q, ns, rfl, rfl, h1, h2, hq⟩ := h
  cases (show v = Value.ref p from rx)
  cases (show u = Value.ref q from ry)
  obtain ⟨its, r1, p1, _⟩ := I.list h1
  obtain ⟨its2, r2, p2, _⟩ := I.list h2
  have e2 : its2 = [] := by cases r2; rfl
  subst e2
  have hl := r1.length
  rw [List.length_map] at hl
  match ns, hl with
  | [], hl =>
    have e1 : its = [] := by
      have : its.length = 0 := by simpa using hl.symm
      exact List.length_eq_zero_iff.mp this
    subst e1
    exact SeqAt.eq_listAt (e := fun _ => true) p1.isList p2.isList rfl hu (fun j g _ => absurd g (Nat.not_lt_zero _)) ⟨.bl true, H, I, rfl, hq⟩
  | n :: ns, hl =>
    refine SeqAt.eq_list_lengthsAt p1.isList p2.isList ?_ hu ⟨.bl false, H, I, rfl, hq⟩
    have : its.length = ns.length + 1 := by simpa using hl.symm
    simp [this]
theorem k_eqNil {X : Cx} (K : PySem.W.Frag) (hu : X.A.units < cLine) (h : X.K = K := by rfl) : OpR X (compareOp .Eq) (rEqNil K) := h ▸ op_eqNil hu
section
variable {σ : St} {H : Hp} {Q : VK} {K : PySem.W.Frag}
theorem rd_rng2 {ta : TA} {R : It → Hp → Prop} (h : ta σ H fun vs H1 => ∃ i j : Int, vs = [.int i, .int j] ∧ (-(2 ^ 62) ≤ i ∧ i < 2 ^ 62 ∧ -(2 ^ 62) ≤ j ∧ j < 2 ^ 62) ∧ R (Itr i (j - i).toNat) H1) : iRng2 ta σ H R := h
theorem rd_lenS {p : Addr} {xs : List V} (e : SqL K H p xs) (h : Q (.int xs.length) H) : rLen K [.ref p] H Q := ⟨p, xs, rfl, .inl e, h⟩
theorem rd_ixS {p : Addr} {xs : List V} {i : Int} {v : V} (e : SqL K H p xs) (a : atI xs i = some v) (h : Q v H) : rIxA K (.ref p) (.int i) H Q := ⟨p, xs, i, v, rfl, rfl, .inl e, a, h⟩
theorem rd_extend {l b : Addr} {xs zs : List V} (e : H l = some (.lst xs)) (e2 : H b = some (.lst zs)) (hz : xs.length + zs.length ≤ sizeLine) (h : Q .non (upd H l (.lst (xs ++ zs)))) : rExtend (.ref l) [.ref b] H Q := ⟨l, b, xs, zs, rfl, rfl, e, e2, hz, h⟩
end
/-- the script as it is handed in: known, never written -/
noncomputable def Scr (K : PySem.W.Frag) (H : Hp) (a : Addr) (ns : List Int) : Prop := (∃ o, H a = some (.frz o (.lst (ns.map V.int)))) ∨
  ∃ (o : Obj) (its : Array Value) (n : Nat), K.lookup a = some o ∧ o.cls = .type "list" ∧ o.dict = none ∧ o.data = .seq its n ∧ its.size ≤ sizeLine ∧ Vals (ns.map V.int) its.toList
theorem Scr.sq {K : PySem.W.Frag} {H : Hp} {a : Addr} {ns : List Int} (h : Scr K H a ns) : SqL K H a (ns.map V.int) := by
  rcases h with ⟨o, h⟩ | h
  · exact .inl (.inr ⟨o, h⟩)
  · exact .inr h
theorem Scr.of {K : PySem.W.Frag} {H : Hp} {a : Addr} {ns : List Int} (hO : Only H) (h : SqL K H a (ns.map V.int)) : Scr K H a ns := by
  rcases h with (h | ⟨o, h⟩) | h
  · rcases hO a with g | ⟨o, xs, g⟩
    · rw [g] at h; cases h
    · rw [g] at h; cases h
  · exact .inl ⟨o, h⟩
  · exact .inr h
/-- all but the list at w is as it was -/
noncomputable def SameT (w : Addr) (H H' : Hp) : Prop := ∀ b u, H b = some u → b ≠ w → H' b = some u
theorem SameT.refl (w : Addr) (H : Hp) : SameT w H H := fun _ _ h _ => h
theorem SameT.trans {w : Addr} {H H1 H2 : Hp} (a : SameT w H H1) (b : SameT w H1 H2) : SameT w H H2 := fun c u h g => b c u (a c u h g) g
theorem Same.t {w : Addr} {H H' : Hp} (h : Same H H') : SameT w H H' := fun b u e _ => h b u e
theorem Scr.t {K : PySem.W.Frag} {H H' : Hp} {w a : Addr} {ns : List Int} {ts : List V} (hw : H w = some (.lst ts)) (s : SameT w H H') (h : Scr K H a ns) : Scr K H' a ns := by
  rcases h with ⟨o, h⟩ | h
  · exact .inl ⟨o, s _ _ h (ne_of h hw (by intro z; cases z))⟩
  · exact .inr h
theorem Scr.same {K : PySem.W.Frag} {H H' : Hp} {a : Addr} {ns : List Int} (s : Same H H') (h : Scr K H a ns) : Scr K H' a ns := by
  rcases h with ⟨o, h⟩ | h
  · exact .inl ⟨o, s _ _ h⟩
  · exact .inr h
end L2

set_option Elab.async false
set_option linter.all false
set_option maxRecDepth 100000
set_option maxHeartbeats 1000000
namespace L2
open PySem PySem.Spec PyProof.Rows
/-! ### t + u, whichever is empty -/
noncomputable def rCatU : R2 := fun x y H Q => ∃ a b xs ys, x = .ref a ∧ y = .ref b ∧ H a = some (.tup xs) ∧ H b = some (.tup ys) ∧ xs.length + ys.length ≤ sizeLine ∧ ∀ r H', Same H H' → H' r = some (.tup (xs ++ ys)) → Q (.ref r) H'
theorem op_catU {X : Cx} : OpR X (binaryOp .Add) rCatU := by
  intro pins s σ H x y v u Q I rx ry h
  obtain ⟨a, b, xs, ys, rfl, rfl, ha, hb, hz, q⟩ := h
  by_cases hx : xs = []
  · subst hx
    cases (show v = Value.ref a from rx)
    cases (show u = Value.ref b from ry)
    obtain ⟨its, r1, p1, _⟩ := I.tuple (SqT.of ha)
    obtain ⟨its2, r2, p2, _⟩ := I.tuple (SqT.of hb)
    obtain ⟨⟨cls, dd, data, sl⟩, ho, hc, n, hd⟩ := p1
    obtain ⟨⟨cls2, dd2, data2, sl2⟩, ho2, hc2, n2, hd2⟩ := p2
    simp only at hc hd hc2 hd2
    subst hc hd hc2 hd2
    have e0 : its = [] := r1.nil_iff.mpr rfl
    exact concat_meets ⟨_, ho, rfl⟩ ⟨_, ho2, rfl⟩ noFill_tuple_add seq_tuple_add PySem.F.slot_tuple_add PySem.F.entry_tuple_add (PySem.F.args_tuple_add_2 _ _)
      (tuple_addW0 a b its.toArray its2.toArray n n2 dd dd2 sl sl2 (by simp [e0])) ⟨ho, ho2, ⟨.ref b, H, I, rfl, q b H (Same.refl H) hb⟩⟩
  · refine op_catT pins s σ H _ _ v u Q I rx ry ⟨a, b, xs, ys, rfl, rfl, SqT.of ha, SqT.of hb, hx, hz, fun e => ?_, fun e p hp => ?_⟩
    · subst e
      exact q a H (Same.refl H) (by rw [List.append_nil]; exact ha)
    · exact q p _ (fun b u e => by rw [upd_ne (ne_of_none e hp)]; exact e) upd_same
section
variable {σ : St} {H : Hp} {Q : VK} {D : Ends} {K : PySem.W.Frag}
theorem rd_ifE {t : TT} {ta tb : TE} (h : t σ H fun c H1 => if c = true then ta σ H1 Q else tb σ H1 Q) : tIf t ta tb σ H Q := h
theorem rd_catU {a b : Addr} {xs ys : List V} (ha : H a = some (.tup xs)) (hb : H b = some (.tup ys)) (hz : xs.length + ys.length ≤ sizeLine) (h : ∀ r H', Same H H' → H' r = some (.tup (xs ++ ys)) → Q (.ref r) H') : rCatU (.ref a) (.ref b) H Q :=
  ⟨a, b, xs, ys, rfl, rfl, ha, hb, hz, h⟩
theorem rd_cat {a b : Addr} {xs ys : List V} (ha : H a = some (.lst xs)) (hb : H b = some (.lst ys)) (hz : xs.length + ys.length ≤ sizeLine) (h : ∀ p, H p = none → Q (.ref p) (upd H p (.lst (xs ++ ys)))) : rCat (.ref a) (.ref b) H Q :=
  ⟨a, b, xs, ys, rfl, rfl, ha, hb, hz, h⟩
theorem rd_lstT {p : Addr} {ys : List V} (e : H p = some (.tup ys)) (h : ∀ l, H l = none → Q (.ref l) (upd H l (.lst ys))) : rLstOf K [.ref p] H Q := ⟨p, ys, rfl, .inr (SqT.of e), h⟩
end
end L2

set_option Elab.async false
set_option linter.all false
set_option maxRecDepth 100000
set_option maxHeartbeats 1000000
namespace L2
open PySem PySem.Spec PyProof.Rows
/-! ### exceptions of own classes: how one lies behind a call -/
structure XEnd (P : Program) (w : World) (outer : List Env) (H : Hp) (s : Shared) (e C t : Addr) (H' : Hp) (B : Heap) (s' : Shared) : Prop where
  os : s'.os = s.os
  bare : AllBare s'.gens
  un : Un (frs outer) [] H H' s.heap s'.heap
  cov : ∀ b o, s.heap.get? b = some o → H b = none → b ∉ frs outer → B.get? b = some o
  thr : ∀ b o, s.heap.get? b = some o → b ∉ frs outer → ∃ o', B.get? b = some o'
  hok : HOk P w H' B
  fl : Heap.FlyingW B outer e (.ref C) (.ref t) s'.heap
noncomputable abbrev CXE (P : Program) (w : World) : CXT := fun outer H s E ev s' => ∃ e C t H' B, ev = .ref e ∧ XEnd P w outer H s e C t H' B s' ∧ E (.ref C) none H'
section
variable {CX : CXT} {P : Program} {w : World} {K : PySem.W.Frag} {mg : Str → Option Value} {base : Heap} {N : List Str} {qual : Str} {scope : Scope} {f : Addr} {cd : Value} {A : Around} {outer : List Env} {s₀ : Shared} {H₀ : Hp} {E : XK}
  {pins : List (Addr × Obj)} {σ : St} {H : Hp} {s : Shared}
theorem frs_sub {b : Addr} (hb : b ∈ frs (envOfC qual scope s₀.heap.objs.size f cd :: outer)) : b = s₀.heap.objs.size ∨ b ∈ frs outer := by
  have e : frs (envOfC qual scope s₀.heap.objs.size f cd :: outer) = s₀.heap.objs.size :: frs outer := rfl
  rw [e] at hb
  exact List.mem_cons.mp hb
theorem frs_not {b : Addr} {o : Obj} (h : s₀.heap.get? b = some o) (hb : b ∉ frs outer) : b ∉ frs (envOfC qual scope s₀.heap.objs.size f cd :: outer) := fun z => by
  rcases frs_sub z with e | e
  · exact Nat.lt_irrefl _ (e ▸ Heap.lt_size h)
  · exact hb e
/-- what lies behind a callee lies behind the frame that it leaves -/
theorem XEnd.out {e C t : Addr} {H' : Hp} {B h' : Heap} {s' : Shared} (I : Inv (cxOf CX P w K mg base N qual scope f cd A outer s₀ H₀ E) pins σ H s) (x : XEnd P w (envOfC qual scope s₀.heap.objs.size f cd :: outer) H s e C t H' B s')
    (fl : Heap.FlyingW B outer e (.ref C) (.ref t) h') (up : s'.heap.UpToSlots h') : XEnd P w outer H₀ s₀ e C t H' B { s' with heap := h' } := by
  have cov : ∀ b o, s₀.heap.get? b = some o → H₀ b = none → b ∉ frs outer → B.get? b = some o := fun b o q n nb =>
    x.cov b o (I.base.keep b o q n nb (fun z => nomatch z)) (I.base.free b o q n (fun z => nomatch z)) (frs_not q nb)
  have thr : ∀ b o, s₀.heap.get? b = some o → b ∉ frs outer → ∃ o', B.get? b = some o' := fun b o q nb => by
    obtain ⟨o', e'⟩ := I.base.there b o q (fun z => nomatch z)
    exact x.thr b o' e' (frs_not q nb)
  have slot : ∀ b o, s₀.heap.get? b = some o → b ∈ frs outer → ∃ sl, h'.get? b = some { o with slots := sl } := fun b o q nb => by
    have n : H₀ b = none := I.ok.frf b nb
    obtain ⟨sl, e1⟩ := I.base.slot b o q n nb (fun z => nomatch z)
    obtain ⟨sl2, e2⟩ := x.un.slot b _ e1 (I.base.free b o q n (fun z => nomatch z)) (List.mem_cons_of_mem _ nb) (fun z => nomatch z)
    obtain ⟨_, o3, e3, d3⟩ := I.ok.funs.mem nb
    have : o3 = o := by
      have e3' : s₀.heap.get? b = some o3 := e3
      rw [q] at e3'
      exact (Option.some.inj e3').symm
    subst this
    obtain ⟨sl4, e4⟩ := up b _ e2 d3
    exact ⟨sl4, e4⟩
  refine ⟨x.os.trans I.os, x.bare, ⟨fun b o q n nb _ => fl.1 b o (cov b o q n nb), fun b o q _ nb _ => slot b o q nb, fun b o q n _ => ?_, fun b o q _ => ?_, fun b xs q => ?_, fun b o u q => ?_, fun b ps q => ?_⟩, cov, thr, x.hok, fl⟩
  · obtain ⟨o', e'⟩ := I.base.there b o q (fun z => nomatch z)
    exact x.un.free b o' e' (I.base.free b o q n (fun z => nomatch z)) (fun z => nomatch z)
  · by_cases nb : b ∈ frs outer
    · obtain ⟨sl, e'⟩ := slot b o q nb
      exact ⟨_, e'⟩
    · obtain ⟨o', e'⟩ := thr b o q nb
      exact ⟨o', fl.1 b o' e'⟩
  · exact x.un.tups b xs (I.base.tups b xs q)
  · exact x.un.frzs b o u (I.base.frzs b o u q)
  · obtain ⟨m1, e1⟩ := I.base.tbls b ps q
    obtain ⟨m2, e2⟩ := x.un.tbls b _ e1
    exact ⟨m1 ++ m2, by rw [e2, Array.append_assoc]⟩
theorem passE : Passes (CXE P w) (cxOf (CXE P w) P w K mg base N qual scope f cd A outer s₀ H₀ E) E := by
  intro pins σ H s ev s' I h
  obtain ⟨e, C, t, H', B, rfl, x, q⟩ := h
  show wpAny (model P w) (A.deeper (envOfC qual scope s₀.heap.objs.size f cd)) (leaving (envOfC qual scope s₀.heap.objs.size f cd) (.ref e)) _ _ s'
  exact wpAny_leaves_onW (L := s₀.heap.objs.size) I.ok.frames rfl x.fl fun h' fl up => ⟨e, C, t, H', B, rfl, XEnd.out I x fl up, q⟩
/-- an exception that was just made leaves its frame -/
theorem made_leaves {e C : Addr} {h' : Heap} {vs : List Value} (I : Inv (cxOf (CXE P w) P w K mg base N qual scope f cd A outer s₀ H₀ E) pins σ H s) (hx : Heap.MadeExcOf s.heap h' e (.ref C) vs) (q : E (.ref C) none H) :
    (cxOf (CXE P w) P w K mg base N qual scope f cd A outer s₀ H₀ E).xe (.ref e) { s with heap := h' } := by
  have st : s.heap.FunFrames base (envOfC qual scope s₀.heap.objs.size f cd :: outer) := I.stack
  have hin : ∀ env ∈ (envOfC qual scope s₀.heap.objs.size f cd :: outer), ∀ a, env.frame = some a → a ∈ frs (envOfC qual scope s₀.heap.objs.size f cd :: outer) := fun env he a hf => List.mem_filterMap.mpr ⟨env, he, hf⟩
  have hB : ∀ b o, s.heap.get? b = some o → b ∉ frs (envOfC qual scope s₀.heap.objs.size f cd :: outer) → (PySem.W.hideAll s.heap (frs (envOfC qual scope s₀.heap.objs.size f cd :: outer))).get? b = some o := fun b o q nb => PySem.W.hideAll_get _ q nb
  have hok : HOk P w H (PySem.W.hideAll s.heap (frs (envOfC qual scope s₀.heap.objs.size f cd :: outer))) := fun a o ea =>
    (I.hok a o ea).stay (fun b u hb q => hB b u q fun z => by
      have n := I.stkFree b z
      rcases hb with rfl | hb
      · rw [n] at ea; cases ea
      · rw [n] at hb; cases hb) (fun _ q => q) fun _ _ q => q
  show wpAny (model P w) (A.deeper (envOfC qual scope s₀.heap.objs.size f cd)) (leaving (envOfC qual scope s₀.heap.objs.size f cd) (.ref e)) _ _ { s with heap := h' }
  refine wpAny_leaves_madeW (base := PySem.W.hideAll s.heap (frs (envOfC qual scope s₀.heap.objs.size f cd :: outer))) (h := s.heap) (L := s₀.heap.objs.size) I.ok.frames rfl (fun b o q => PySem.W.of_hideAll _ q) (PySem.W.funFrames_hide st hin) hx fun h2 t fl _ _ up => ?_
  generalize PySem.W.hideAll s.heap (frs (envOfC qual scope s₀.heap.objs.size f cd :: outer)) = B at hB hok fl
  refine ⟨e, C, t, H, B, rfl, ?_, q⟩
  have cov : ∀ b o, s₀.heap.get? b = some o → H₀ b = none → b ∉ frs outer → B.get? b = some o := fun b o q n nb =>
    hB b o (I.base.keep b o q n nb (fun z => nomatch z)) (frs_not q nb)
  have thr : ∀ b o, s₀.heap.get? b = some o → b ∉ frs outer → ∃ o', B.get? b = some o' := fun b o q nb => by
    obtain ⟨o', e'⟩ := I.base.there b o q (fun z => nomatch z)
    exact ⟨o', hB b o' e' (frs_not q nb)⟩
  have slot : ∀ b o, s₀.heap.get? b = some o → b ∈ frs outer → ∃ sl, h2.get? b = some { o with slots := sl } := fun b o q nb => by
    obtain ⟨sl, e1⟩ := I.base.slot b o q (I.ok.frf b nb) nb (fun z => nomatch z)
    obtain ⟨_, o3, e3, d3⟩ := I.ok.funs.mem nb
    have : o3 = o := by
      have e3' : s₀.heap.get? b = some o3 := e3
      rw [q] at e3'
      exact (Option.some.inj e3').symm
    subst this
    obtain ⟨sl4, e4⟩ := up b _ (hx.keeps _ _ e1) d3
    exact ⟨sl4, e4⟩
  refine ⟨I.os, I.bare, ⟨fun b o q n nb _ => fl.1 b o (cov b o q n nb), fun b o q _ nb _ => slot b o q nb, fun b o q n _ => I.base.free b o q n (fun z => nomatch z), fun b o q _ => ?_, I.base.tups, I.base.frzs, I.base.tbls⟩, cov, thr, hok, fl⟩
  by_cases nb : b ∈ frs outer
  · obtain ⟨sl, e'⟩ := slot b o q nb
    exact ⟨_, e'⟩
  · obtain ⟨o', e'⟩ := thr b o q nb
    exact ⟨o', fl.1 b o' e'⟩
/-! ### raise C(..) -/
abbrev bmV : List Value := [.type "ValueError", .type "Exception", .type "BaseException", .type "object"]
noncomputable def tRaise (E : XK) (C : Addr) (t : TA) : TS := fun _ σ H => t σ H fun vs H1 => vs.length ≤ sizeLine ∧ E (.ref C) none H1
theorem own_at {x : Str} {C : Addr} {bmB : List Value} {newId : String} (M : Mod K mg base) (hm : mg x = some (.ref C)) (q : PySem.W.excIn K C bmB newId = true) : OwnCls x C bmB newId mg base := by
  refine ⟨hm, ?_⟩
  have X := M.kin
  unfold PySem.W.excIn at q
  split at q
  · rename_i dd cd sl ho
    split at q
    · rename_i C' bm k0 k1 k2 k3 n k5 h1 h2
      simp only [Bool.and_eq_true, beq_iff_eq, Bool.not_eq_true'] at q
      obtain ⟨⟨⟨⟨⟨rfl, rfl⟩, hdel⟩, ht⟩, hok⟩, hni⟩ := q
      obtain ⟨nm, bs, mro, ns, qn, hd, sn, sub, ab, col, del⟩ := cd
      dsimp only at h1 hdel hok hni
      subst h1 hdel
      have h3 : sl = #[k0, k1, k2, k3, some (.builtin n), k5] := by
        obtain ⟨l⟩ := sl
        simp only at h2
        rw [h2]
      subst h3
      exact ⟨bm, ns, nm, qn, bs, hd, sn, sub, ab, col, dd, k0, k1, k2, k3, k5, _, X _ _ ho, .of_isNs (PySem.W.isNs_of_in X hok), PySem.W.nsMap_none_of_in X hok hni, PySem.W.tail_of_in X ht⟩
    · cases q
  · cases q
theorem ps_raise {x : Str} {C : Addr} {np cpos pos : Pos} {e₀ : Expr} {rest : List Expr} {t : TA} (hm : mg x = some (.ref C)) (qx : PySem.W.excIn K C bmV "ValueError.__new__" = true)
    (hg : Gl (cxOf (CXE P w) P w K mg base N qual scope f cd A outer s₀ H₀ E) x) (ha : PA (cxOf (CXE P w) P w K mg base N qual scope f cd A outer s₀ H₀ E) (e₀ :: rest) t)
    (he : starEach (e₀ :: rest) (cxOf (CXE P w) P w K mg base N qual scope f cd A outer s₀ H₀ E).env = (false, eval e₀ (cxOf (CXE P w) P w K mg base N qual scope f cd A outer s₀ H₀ E).env) :: starEach rest (cxOf (CXE P w) P w K mg base N qual scope f cd A outer s₀ H₀ E).env := by rfl)
    (hpl : (backTo cpos (starEach rest (cxOf (CXE P w) P w K mg base N qual scope f cd A outer s₀ H₀ E).env)).any (·.1) = false := by rfl) (hdb : (x == ("__debug__" : Str)) = false := by decide) :
    PS (cxOf (CXE P w) P w K mg base N qual scope f cd A outer s₀ H₀ E) (.Raise (some (.Call (.Name x np) (e₀ :: rest) [] cpos)) none pos) (tRaise E C t) := by
  intro pins s σ H D I h
  have O : OwnCls x C bmV "ValueError.__new__" mg base := own_at I.ok.mod hm qx
  obtain ⟨tl, Nn, nm, q, bs, hdct, sn, sub, ab, col, dd, k0, k1, k2, k3, k5, mN, hC, hN, hni, T⟩ := O.obj
  refine wpAny_Raise_call_subU (C := C) (nm := nm) (q := q) (N := Nn) (bs := bs) (bm := tl) (hdct := hdct) (sn := sn) (sub := sub) (ab := ab) (col := col) (dd := dd) (k0 := k0) (k1 := k1) (k2 := k2) (k3 := k3) (k5 := k5)
    PySem.F.excBase_ValueError (by decide) PySem.F.excBase_ValueError (mN := mN) (T.hasType PySem.F.excBase_ValueError.hasBase) (I.ok.hd rfl) (by rw [he]; exact hpl) hni (ld_glob I hg O.bound ⟨rfl, ?_⟩ hdb)
  have h1 := ha cpos pins s σ H _ I h
  rw [he] at h1 ⊢
  refine Calls.evalArgs_plain (wpAny_mono h1 (fun us s2 ⟨vs, H1, I1, r, q1, q2⟩ => ⟨rfl, by rw [← r.length]; exact q1, I1.bk _ _ hC, hN.keeps I1.bk, T.keeps I1.bk, fun h' e hm => made_leaves I1 hm q2⟩) fun _ _ y => y)
/-- THE RULE for a def that may raise -/
theorem Fun.okX {x qual : Str} {st : Stmt} {f : Addr} {fd : FuncData} {N ps : List Str} {k : Nat} {sp : Sp} (F : Fun K x qual st f fd) (S : FnScope N ps (defScope st)) (len : ∀ vs H Q E, sp vs H Q E → vs.length = ps.length)
    (hbody : ∀ (cdv : Value) (A : Around) (outer : List Env) (s : Shared) (H : Hp) (vs : List V) (Q : VK) (E : XK), Room k (A.deeper (envOfC qual (defScope st) s.heap.objs.size f cdv)) → sp vs H Q E →
      ∃ t, PSs (cxOf (CXE P w) P w K mg base N qual (defScope st) f cdv A outer s H E) (defBody st) t ∧ t { nx := fun _ H' => Q .non H', rt := Q } (start N vs) H) : FnOk P w K mg base (CXE P w) (k + 1) f fd ps sp := by
  obtain ⟨oc, od, kV, doc, pm, an, cdv, ct, osl, rfl, lk, hcd⟩ := F.ex
  exact fn_of lk hcd S len fun A outer s H vs Q E hr hsp => hbody cdv A outer s H vs Q E hr hsp
end
end L2

set_option Elab.async false
set_option linter.all false
set_option maxRecDepth 100000
set_option maxHeartbeats 1000000
namespace L2
open PySem PySem.Spec PyProof.Rows
section
variable {P : Program} {w : World} {l : List Env} {H H' : Hp} {s s' : Shared} {e C t : Addr} {B h' : Heap}
/-- the exception moves on, all else is kept -/
theorem XEnd.move (x : XEnd P w l H s e C t H' B s') (fr : ∀ b ∈ frs l, H b = none) (fl : Heap.FlyingW B l e (.ref C) (.ref t) h') (up : s'.heap.UpToSlots h') : XEnd P w l H s e C t H' B { s' with heap := h' } := by
  have slot : ∀ b o, s.heap.get? b = some o → b ∈ frs l → ∃ sl, h'.get? b = some { o with slots := sl } := fun b o q nb => by
    obtain ⟨sl, e1⟩ := x.un.slot b o q (fr b nb) nb (fun z => nomatch z)
    obtain ⟨_, o3, e3, d3⟩ := x.fl.2.2.1.mem nb
    have : o3 = { o with slots := sl } := Option.some.inj (e3.symm.trans e1)
    subst this
    obtain ⟨sl2, e2⟩ := up b _ e1 d3
    exact ⟨sl2, e2⟩
  refine ⟨x.os, x.bare, ⟨fun b o q n nb _ => fl.1 b o (x.cov b o q n nb), fun b o q _ nb _ => slot b o q nb, x.un.free, fun b o q _ => ?_, x.un.tups, x.un.frzs, x.un.tbls⟩, x.cov, x.thr, x.hok, fl⟩
  by_cases nb : b ∈ frs l
  · obtain ⟨sl, e1⟩ := slot b o q nb
    exact ⟨_, e1⟩
  · obtain ⟨o', e1⟩ := x.thr b o q nb
    exact ⟨o', fl.1 b o' e1⟩
theorem XEnd.new (x : XEnd P w l H s e C t H' B s') : s.heap.get? e = none := by
  cases q : s.heap.get? e with
  | none => rfl
  | some o =>
    exfalso
    by_cases nb : e ∈ frs l
    · obtain ⟨_, o3, e3, d3⟩ := x.fl.2.2.1.mem nb
      obtain ⟨oe, vs, he, _, hd, _⟩ := x.fl.first
      rw [e3] at he
      cases he
      exact d3 vs hd
    · obtain ⟨o', e1⟩ := x.thr e o q nb
      rw [x.fl.2.1] at e1
      cases e1
theorem XEnd.free (x : XEnd P w l H s e C t H' B s') : H' e = none := by
  cases q : H' e with
  | none => rfl
  | some o =>
    obtain ⟨u, e1⟩ := (x.hok e o q).there
    rw [x.fl.2.1] at e1
    cases e1
end
section
variable {X : Cx} {pins : List (Addr × Obj)} {σ : St} {H H' : Hp} {s s' : Shared} {e C t : Addr} {B : Heap}
theorem Inv.exc (I : Inv X pins σ H s) (x : XEnd X.prog X.w X.stack H s e C t H' B s') : Inv X pins σ H' s' :=
  I.call' x.os x.un (x.hok.kept x.fl.1) x.bare (fun _ z => nomatch z)
/-- what is known of a caught exception: its class -/
noncomputable def excO (e C : Addr) : HO := .ext fun h => ∃ ob, h.get? e = some ob ∧ ob.cls = .ref C ∧ ∃ vs, ob.data = .fields vs
theorem Inv.track {o : HO} (J : Inv X pins σ H s) (hn : H e = none) (h0 : X.s₀.heap.get? e = none) (hL : e ≠ X.env.locals) (hc : ∀ x c, X.env.cells.lookup x = some c → c ≠ e) (hp : ∀ p ∈ X.pn ++ pins, p.1 ≠ e)
    (ho : ObjOk X.prog X.w (upd H e o) s.heap e o) : Inv X pins σ (upd H e o) s := by
  have ne : ∀ b u, H b = some u → b ≠ e := fun b u q z => by rw [z, hn] at q; cases q
  have up : ∀ b u, H b = some u → upd H e o b = some u := fun b u q => by rw [upd_ne (ne b u q)]; exact q
  refine ⟨J.ok, J.os, J.bare, ⟨J.base.keep, J.base.slot, fun b ob q n hx => ?_, J.base.there, fun b xs q => up _ _ (J.base.tups b xs q), fun b ob u q => up _ _ (J.base.frzs b ob u q), fun b ps q => ?_⟩, J.loc, J.cell, ?_, fun y c q => ?_, fun p hq => ?_, fun b u q => ?_, J.len⟩
  · have : b ≠ e := fun z => by rw [z, h0] at q; cases q
    rw [upd_ne this]
    exact J.base.free b ob q n hx
  · obtain ⟨m, q⟩ := J.base.tbls b ps q
    exact ⟨m, up _ _ q⟩
  · rw [upd_ne (Ne.symm hL)]; exact J.free
  · rw [upd_ne (hc y c q)]; exact J.freeC y c q
  · obtain ⟨a1, a2, a3, a4, a5⟩ := J.pin p hq
    exact ⟨a1, by rw [upd_ne (hp p hq)]; exact a2, a3, a4, a5⟩
  · by_cases z : b = e
    · subst z
      rw [upd_same] at q
      cases q
      exact ho
    · rw [upd_ne z] at q
      exact (J.hok b u q).stay (fun _ _ _ q => q) (fun c q => up _ _ q) fun c xs q => up _ _ q
/-- the frame forgets a local -/
theorem Inv.forget {i : Nat} {x : Str} {m : Str → Option Value} {v : Option Value} {h' : Heap} {t' : Nat} (I : Inv X pins σ H s) (hN : X.N.Nodup) (hi : X.N[i]? = some x) (hk : X.env.scope.names.lookup x = some .local)
    (hn : s.heap.Ns X.env.locals m) (hn' : h'.Ns X.env.locals (fun y => if y = x then v else m y)) (hs : Heap.SameBut X.env.locals s.heap h') : Inv X pins (σ.set i none) H { s with heap := h', toks := t' } := by
  obtain ⟨m0, hn0, hl0⟩ := id I.loc
  obtain rfl : m0 = m := ns_one hn0 hn
  have nL : ∀ b o, X.s₀.heap.get? b = some o → b ≠ X.env.locals := fun b o q => Nat.ne_of_lt (Nat.lt_of_lt_of_le (Heap.lt_size q) I.ok.above)
  refine ⟨I.ok, I.os, I.bare, ⟨fun b o q n hb hx => (hs.2 b (nL b o q)).trans (I.base.keep b o q n hb hx), fun b o q n hb hx => ?_, I.base.free, fun b o q hx => ?_, I.base.tups, I.base.frzs, I.base.tbls⟩, ⟨_, hn', fun j y v' e1 e2 e3 => ?_⟩, fun y c q => ?_, I.free, I.freeC, fun p hp => ?_, fun b ob q => ?_, by rw [List.length_set]; exact I.len⟩
  · obtain ⟨sl, e1⟩ := I.base.slot b o q n hb hx
    exact ⟨sl, (hs.2 b (nL b o q)).trans e1⟩
  · obtain ⟨o', e1⟩ := I.base.there b o q hx
    exact ⟨o', (hs.2 b (nL b o q)).trans e1⟩
  · have hj : j ≠ i := fun z => by
      subst z
      by_cases hlt : j < σ.length
      · rw [List.getElem?_set_self hlt] at e2; cases e2
      · rw [List.getElem?_eq_none (by rw [List.length_set]; omega)] at e2; cases e2
    rw [List.getElem?_set_ne (Ne.symm hj)] at e2
    obtain ⟨u', r', q⟩ := hl0 j y v' e1 e2 e3
    refine ⟨u', r', ?_⟩
    rcases q with ⟨k, q⟩ | ⟨k, c, q, z⟩
    · refine .inl ⟨k, ?_⟩
      have : y ≠ x := fun q => hj (nodup_ix hN e1 (q ▸ hi))
      simp [this, q]
    · exact .inr ⟨k, c, q, z.sameBut hs (I.cne y c q)⟩
  · obtain ⟨w', z⟩ := I.cell y c q
    exact ⟨w', z.sameBut hs (I.cne y c q)⟩
  · obtain ⟨a1, a2, a3, a4, a5⟩ := I.pin p hp
    exact ⟨(hs.2 p.1 a3).trans a1, a2, a3, a4, a5⟩
  · refine (I.hok b ob q).stay (fun c w' hc z => (hs.2 c ?_).trans z) (fun _ z => z) fun _ _ z => z
    rintro rfl
    have fr := I.free
    rcases hc with rfl | hc
    · rw [fr] at q; cases q
    · rw [fr] at hc; cases hc
/-! ### within an except suite -/
noncomputable abbrev Cx.hand (X : Cx) (e : Addr) : Cx := { X with A := X.A.mark (some (.ref e)), calm := false, xe := fun _ _ => False }
theorem Inv.hand (I : Inv X pins σ H s) (e : Addr) : Inv (X.hand e) pins σ H s :=
  ⟨⟨I.ok.mod, I.ok.kind, I.ok.glob, I.ok.blt, I.ok.above, I.ok.inj, I.ok.has, I.ok.cab, (fun z => absurd z Bool.false_ne_true), I.ok.frames, I.ok.stk, I.ok.exf, I.ok.bs, I.ok.bsz, I.ok.noex, I.ok.exfs, I.ok.funs, I.ok.frf⟩, I.os, I.bare, I.base, I.loc, I.cell, I.free, I.freeC, I.pin, I.hok, I.len⟩
theorem Inv.unhand (hd : X.calm = true → X.A.handled = none) (I : Inv (X.hand e) pins σ H s) : Inv X pins σ H s :=
  ⟨⟨I.ok.mod, I.ok.kind, I.ok.glob, I.ok.blt, I.ok.above, I.ok.inj, I.ok.has, I.ok.cab, hd, I.ok.frames, I.ok.stk, I.ok.exf, I.ok.bs, I.ok.bsz, I.ok.noex, I.ok.exfs, I.ok.funs, I.ok.frf⟩, I.os, I.bare, I.base, I.loc, I.cell, I.free, I.freeC, I.pin, I.hok, I.len⟩
/-- what is wanted where an exception of the class at C is caught by a suite, whose name stands in slot i -/
noncomputable def tHand (K : PySem.W.Frag) (Dc : Addr) (i : Nat) (th : TS) (D : Ends) : XK := fun cls _ H' => ∃ C, cls = .ref C ∧ PySem.W.exmOne K (.ref C) (.ref Dc) = some true ∧ ∀ (e : Addr) (σ : St), H' e = none → i < σ.length →
  th { nx := fun σ H => D.nx (σ.set i none) H, rt := D.rt, bk := fun σ H => D.bk (σ.set i none) H, ct := fun σ H => D.ct (σ.set i none) H } (σ.set i (some (.ref e))) (upd H' e (excO e C))
noncomputable abbrev Cx.pinned (X : Cx) (pn : List (Addr × Obj)) (E1 : Value → Shared → Prop) : Cx := { X with pn := pn, xe := E1 }
theorem Inv.pn1 (I : Inv X pins σ H s) (E1 : Value → Shared → Prop) : Inv (X.pinned (X.pn ++ pins) E1) [] σ H s :=
  ⟨⟨I.ok.mod, I.ok.kind, I.ok.glob, I.ok.blt, I.ok.above, I.ok.inj, I.ok.has, I.ok.cab, I.ok.hd, I.ok.frames, I.ok.stk, I.ok.exf, I.ok.bs, I.ok.bsz, I.ok.noex, I.ok.exfs, I.ok.funs, I.ok.frf⟩, I.os, I.bare, I.base, I.loc, I.cell, I.free, I.freeC, fun p hp => I.pin p (by simpa using hp), I.hok, I.len⟩
theorem Inv.unpn1 {E1 : Value → Shared → Prop} {pins' : List (Addr × Obj)} (I : Inv (X.pinned (X.pn ++ pins) E1) pins' σ H s) : Inv X pins σ H s :=
  ⟨⟨I.ok.mod, I.ok.kind, I.ok.glob, I.ok.blt, I.ok.above, I.ok.inj, I.ok.has, I.ok.cab, I.ok.hd, I.ok.frames, I.ok.stk, I.ok.exf, I.ok.bs, I.ok.bsz, I.ok.noex, I.ok.exfs, I.ok.funs, I.ok.frf⟩, I.os, I.bare, I.base, I.loc, I.cell, I.free, I.freeC, fun p hp => I.pin p (List.mem_append_left _ hp), I.hok, I.len⟩
theorem SP.unpinned {E1 : Value → Shared → Prop} {pins' : List (Addr × Obj)} {D : Ends} {f : Flow} (h : SP (X.pinned (X.pn ++ pins) E1) pins' D f s') : SP X pins D f s' := by
  cases f with
  | next => obtain ⟨σ', H', I, q⟩ := h; exact ⟨σ', H', I.unpn1, q⟩
  | brk => obtain ⟨σ', H', I, q⟩ := h; exact ⟨σ', H', I.unpn1, q⟩
  | cont => obtain ⟨σ', H', I, q⟩ := h; exact ⟨σ', H', I.unpn1, q⟩
  | ret u => obtain ⟨v, σ', H', I, r, q⟩ := h; exact ⟨v, σ', H', I.unpn1, r, q⟩
theorem ps_try {x n : Str} {Dc : Addr} {i : Nat} {np hpos pos : Pos} {body suite : List Stmt} {b₀ : Stmt} {tb : XK → TS} {th : TS} (hcalm : X.calm = true) (hN : X.N.Nodup) (hi : X.N[i]? = some n) (hk : X.env.scope.names.lookup n = some .local)
    (hex : X.ex = []) (hstk : X.stack = X.env :: X.outer) (hfr : X.env.frame = some X.env.locals) (hg : Gl X x) (hm : X.mg x = some (.ref Dc))
    (hb : ∀ (pn : List (Addr × Obj)) (E1 : Value → Shared → Prop) (Eb : XK), Passes (CXE X.prog X.w) (X.pinned pn E1) Eb → PSs (X.pinned pn E1) body (tb Eb)) (hh : ∀ e, PSs (X.hand e) (b₀ :: suite) th) (hdb : (x == ("__debug__" : Str)) = false := by decide) :
    PS X (.Try body [.ExceptHandler (some (.Name x np)) (some n) (b₀ :: suite) hpos] [] [] pos) (fun D σ H => tb (tHand X.K Dc i th D) D σ H) := by
  intro pins s σ H D I h
  refine wpAny_Try_except ?_
  refine wpAny_mono (hb (X.pn ++ pins) (fun ev s₁ => wpAny (model X.prog X.w) X.A (noteFrame ev X.env) (fun _ s₂ => wpAny (model X.prog X.w) X.A (setFlight ev none) (fun _ s₃ => wpAny (model X.prog X.w) X.A (handleBy ev X.env [.ExceptHandler (some (.Name x np)) (some n) (b₀ :: suite) hpos]) (SP X pins D) X.xe s₃) X.xe s₂) X.xe s₁)
    (tHand X.K Dc i th D) ?_ [] s σ H D (I.pn1 _) h) (fun f s1 hs => ?_) fun _ _ z => z
  rotate_left
  · cases f with
    | next => exact wpAny_execs_nil (SP.unpinned hs)
    | brk => exact SP.unpinned hs
    | cont => exact SP.unpinned hs
    | ret u => exact SP.unpinned hs
  intro pins' σ' H1 s1 ev s' I1 hx
  obtain ⟨e, C, t, H', B, rfl, x0, q⟩ := hx
  have I1 : Inv X pins σ' H1 s1 := I1.unpn1
  obtain ⟨C', hC', hcm, q⟩ := q
  cases hC'
  have fr : ∀ b ∈ frs X.stack, H1 b = none := fun b hb => I1.stkFree b hb
  have fls := x0.fl
  have ef : (X.pinned (X.pn ++ pins) (fun ev s₁ => wpAny (model X.prog X.w) X.A (noteFrame ev X.env) (fun _ s₂ => wpAny (model X.prog X.w) X.A (setFlight ev none) (fun _ s₃ => wpAny (model X.prog X.w) X.A (handleBy ev X.env [.ExceptHandler (some (.Name x np)) (some n) (b₀ :: suite) hpos]) (SP X pins D) X.xe s₃) X.xe s₂) X.xe s₁)).stack = X.stack := rfl
  rw [ef] at x0 fls
  rw [hstk] at fls
  show wpAny (model X.prog X.w) X.A (noteFrame (.ref e) X.env) _ _ s'
  refine wpAny_looks_onW (outer := X.outer) (L := X.env.locals) (by rw [← hstk]; exact I1.ok.frames) hfr fls fun h4 held up4 => ?_
  refine wpAny_landsW held fun h5 fl5 up5 => ?_
  have x5 := x0.move fr (by rw [hstk]; exact fl5) (up4.trans up5)
  have J5 := I1.exc x5
  have XI : X.K.In h5 := J5.kIn
  obtain ⟨ob, hob, hoc⟩ := fl5.there
  have LT : PySem.W.Looks (model X.prog X.w) h5 (typeOf (.ref e)) (.ref C) := hoc ▸ (PySem.W.Looks.ld hob).andThen .now
  have LM : PySem.W.Looks (model X.prog X.w) h5 (excMatches (.ref e) (.ref Dc)) true := PySem.W.exm_one XI LT hcm
  refine wpAny_handleBy_cons (codeAny_handlers_test ?_) (by intro z; cases z)
  refine ld_glob (X := X.hand e) (J5.hand e) hg hm ?_ hdb
  refine LM.here ?_
  refine codeAny_handlers_suite_as ?_
  refine lands_againW fl5 fun h6 fl6 up6 => ?_
  have x6 := x5.move fr (by rw [hstk]; exact fl6) up6
  have J6 : Inv X pins σ' H' { s' with heap := h6 } := I1.exc x6
  obtain ⟨oe, vs, he, hec, hed, _⟩ := fl6.first
  have new1 : s1.heap.get? e = none := x0.new
  have J7 : Inv X pins σ' (upd H' e (excO e C)) { s' with heap := h6 } := by
    refine J6.track x6.free ?_ ?_ ?_ ?_ ?_
    · cases q0 : X.s₀.heap.get? e with
      | none => rfl
      | some o =>
        obtain ⟨o', q1⟩ := I1.base.there e o q0 (by rw [hex]; exact fun z => nomatch z)
        rw [new1] at q1; cases q1
    · rintro rfl
      obtain ⟨m, ⟨o, _, _, ho, _⟩, _⟩ := I1.loc
      rw [new1] at ho; cases ho
    · rintro y c q1 rfl
      obtain ⟨v, o, ho, _⟩ := I1.cell y c q1
      rw [new1] at ho; cases ho
    · rintro p hp rfl
      have := (I1.pin p hp).1
      rw [new1] at this; cases this
    · exact ⟨⟨oe, he, hec, vs, hed⟩, ⟨oe, he⟩, fun h1 h2 ⟨o1, a1, a2⟩ k => ⟨o1, k _ a1, a2⟩⟩
  refine store_ok (X := X.hand e) (v := .ref e) (J7.hand e) hN hi (.inl hk) rfl (fun s8 J8 => ?_) (.inr hk)
  refine wpAny_mono (hh e pins s8 _ _ _ J8 (q e σ' x6.free (by rw [I1.len]; exact (List.getElem?_eq_some_iff.mp hi).1))) (fun f s9 hs => ?_) fun _ _ z => False.elim z
  have fin : ∀ (σ9 : St) (H9 : Hp), Inv (X.hand e) pins σ9 H9 s9 → ∀ (Q : Unit → Shared → Prop), (∀ s10, Inv X pins (σ9.set i none) H9 s10 → Q () s10) → wpAny (model X.prog X.w) X.A (do bindName X.env n .none; unbindBehindTheSuite X.env n hpos) Q X.xe s9 := fun σ9 H9 J9 Q hQ => by
    have J9 : Inv X pins σ9 H9 s9 := J9.unhand I.ok.hd
    obtain ⟨m, hn, _⟩ := id J9.loc
    refine wpAny_nameGoes_keeps hk hn (by rw [J9.ok.kind]; rfl) fun h' v hn' hs' => hQ _ (J9.forget hN hi hk hn hn' hs')
  cases f with
  | next =>
    obtain ⟨σ9, H9, J9, q9⟩ := hs
    exact fin σ9 H9 J9 _ fun s10 J10 => ⟨_, _, J10, q9⟩
  | brk =>
    obtain ⟨σ9, H9, J9, q9⟩ := hs
    exact fin σ9 H9 J9 _ fun s10 J10 => ⟨_, _, J10, q9⟩
  | cont =>
    obtain ⟨σ9, H9, J9, q9⟩ := hs
    exact fin σ9 H9 J9 _ fun s10 J10 => ⟨_, _, J10, q9⟩
  | ret u =>
    obtain ⟨v, σ9, H9, J9, r9, q9⟩ := hs
    exact fin σ9 H9 J9 _ fun s10 J10 => ⟨v, _, _, J10, r9, q9⟩
end
end L2

set_option Elab.async false
set_option linter.all false
set_option maxRecDepth 100000
set_option maxHeartbeats 1000000
namespace L2
open PySem PySem.Spec PyProof.Rows
/-- what is known of an own error class -/
structure ExcC (K : PySem.W.Frag) (C : Addr) : Prop where
  exc : PySem.W.excIn K C bmV "ValueError.__new__" = true
  ga : PySem.W.findIn K (.ref C) "__getattribute__" = some (some (.builtin "BaseException.__getattribute__"))
  gn : PySem.W.findIn K (.ref C) "__getattr__" = some none
  gc : PySem.W.findIn K (.ref C) "__class__" = some (some (.builtin "object.__class__"))
  sb : PySem.W.subIn K (.ref C) (.type "BaseException") = some true
  so : PySem.W.subIn K (.ref C) (.type "object") = some true
  cl : ∃ cd, PySem.W.clsIn K C = some cd
section
variable {prog : Program} {w : World} {A : Around} {E : Value → Shared → Prop} {h : Heap} {g : Array GenState} {d : Drawn} {t : Nat} {os : OsState} {a C : Addr} {o : Obj} {K : PySem.W.Frag}
theorem class_get_exc {R : Result → Shared → Prop} (X : K.In h) (Z : ExcC K C) (hx : h.get? a = some o) (hc : o.cls = .ref C) (hq : R (.ok (.ret (.ref C))) ⟨h, g, d, t, os⟩) :
    codeAny (model prog w) A (.call (.builtin "getset_descriptor.__get__") ⟨[.builtin "object.__class__", .ref a, .ref C], []⟩) R ⟨h, g, d, t, os⟩ := by
  have hT5 : (⟨h, g, d, t, os⟩ : Shared).TypeIs (.builtin "object.__class__") "getset_descriptor" := F.typeOf_object_class
  have Ls : PySem.W.Looks (model prog w) h (isSubtype (.ref C) (.type (".".intercalate ("object.__class__".cutAt '.').dropLast))) true := by
    rw [F.owner_object_class]; exact PySem.W.looks_subIn X Z.so
  refine codeAny_call_builtin F.slot_gs_get.plain F.entry_gs_get (F.slot_gs_get.check _ _ _ _ _ _ _ _ hT5 (F.args_gs_get _ _ _) ?_)
  repeat (any_goals (first | assumption | (with_reducible refine wpAny_loadPart_at hx ?_; rw [hc]) | (with_reducible refine PySem.W.Looks.at Ls ?_) | wp_step))
  refine ⟨Code.quiet_builtin _ (by decide +kernel), codeAny_builtin F.entry_object_class ?_⟩
  repeat (any_goals (first | assumption | (with_reducible refine wpAny_loadPart_at hx ?_; rw [hc]) | wp_step))
theorem class_entry_exc {tk : Tok} {Q : Fin → Shared → Prop} (X : K.In h) (Z : ExcC K C) (hx : h.get? a = some o) (hc : o.cls = .ref C) (hq : Q (.done (.ret (.ref C))) ⟨h, g, d, t, os⟩) :
    wpAny (model prog w) A (Builtin.«object.__getattribute__» ⟨[.ref a, .str "__class__" tk], []⟩) Q E ⟨h, g, d, t, os⟩ := by
  have hT5 : (⟨h, g, d, t, os⟩ : Shared).TypeIs (.builtin "object.__class__") "getset_descriptor" := F.typeOf_object_class
  have f5 := F.typeOf_object_class
  have f6 := F.slot_gs_get.lookup
  have f7 := F.slot_gs_set.lookup
  have Lc : PySem.W.Looks (model prog w) h (typeLookup (.ref C) "__class__") (some (.builtin "object.__class__")) := PySem.W.looks_findIn X Z.gc
  repeat (any_goals (first | assumption | (with_reducible refine wpAny_loadPart_at hx ?_; rw [hc]) | (with_reducible refine PySem.W.Looks.at Lc ?_) | wp_step))
  refine class_get_exc X Z hx hc ?_
  repeat (any_goals (first | assumption | wp_step))
theorem check_ga_exc {M : Model} {nameV : Value} {Q : Unit → Shared → Prop} (X : K.In h) (Z : ExcC K C) (hx : h.get? a = some o) (hc : o.cls = .ref C) (hq : Q () ⟨h, g, d, t, os⟩) :
    wpAny M A (checkBuiltinCall "BaseException.__getattribute__" ⟨[.ref a, nameV], []⟩) Q E ⟨h, g, d, t, os⟩ := by
  have hk : builtinKind "BaseException.__getattribute__" = some .slot := by decide +kernel
  have hsplit : splitId "BaseException.__getattribute__" = some ("BaseException", "__getattribute__") := by decide +kernel
  have ha := F.args_bexc_ga (.ref a) nameV
  have Ls : PySem.W.Looks M h (isSubtype (.ref C) (.type "BaseException")) true := PySem.W.looks_subIn X Z.sb
  simp only [checkBuiltinCall, hk, hsplit]
  refine wpAny_bind ?_
  unfold isInstance
  repeat (first | (with_reducible refine wpAny_loadPart_at hx ?_; rw [hc]) | (with_reducible refine PySem.W.Looks.at Ls ?_) | wp_step)
  exact hq
theorem class_call_exc {tk : Tok} {R : Result → Shared → Prop} (X : K.In h) (Z : ExcC K C) (hx : h.get? a = some o) (hc : o.cls = .ref C) (hq : R (.ok (.ret (.ref C))) ⟨h, g, d, t, os⟩) :
    codeAny (model prog w) A (.call (.builtin "BaseException.__getattribute__") ⟨[.ref a, .str "__class__" tk], []⟩) R ⟨h, g, d, t, os⟩ :=
  codeAny_call_builtin PySem.F.excAttr_ValueError.ga.plain F.entry_bexc_ga (check_ga_exc X Z hx hc (class_entry_exc X Z hx hc hq))
theorem class_by_exc {tk : Tok} {Q : Value → Shared → Prop} (X : K.In h) (Z : ExcC K C) (hx : h.get? a = some o) (hc : o.cls = .ref C) (hq : Q (.ref C) ⟨h, g, d, t, os⟩) :
    wpAny (model prog w) A (getAttrBy (.ref a) (.str "__class__" tk) false) Q E ⟨h, g, d, t, os⟩ := by
  have f3 := PySem.F.excAttr_ValueError.ga.bind (.ref a)
  have hx2 : (Value.builtin "BaseException.__getattribute__" == Value.builtin "object.__getattribute__") = false := by decide +kernel
  have L1 : PySem.W.Looks (model prog w) h (typeLookup (.ref C) "__getattribute__") (some (.builtin "BaseException.__getattribute__")) := PySem.W.looks_findIn X Z.ga
  have L2 : PySem.W.Looks (model prog w) h (typeLookup (.ref C) "__getattr__") none := PySem.W.looks_findIn X Z.gn
  have hx1 : (onTheHeap (Value.ref C) && Value.builtin "BaseException.__getattribute__" == Value.builtin "object.__getattribute__") = false := by rw [hx2]; rfl
  repeat (any_goals (first | assumption | (with_reducible refine wpAny_loadPart_at hx ?_; rw [hc]) | (with_reducible refine PySem.W.Looks.at L1 ?_) | (with_reducible refine PySem.W.Looks.at L2 ?_) | wp_step))
  refine class_call_exc X Z hx hc ?_
  repeat (any_goals (first | assumption | wp_step))
theorem class_attr_exc {Q : Option Value → Shared → Prop} (X : K.In h) (Z : ExcC K C) (hx : h.get? a = some o) (hc : o.cls = .ref C) (hq : Q (some (.ref C)) ⟨h, g, d, t + 1, os⟩) :
    wpAny (model prog w) A (getAttr? (.ref a) "__class__") Q E ⟨h, g, d, t, os⟩ := by
  unfold getAttr? getAttrBy?
  repeat (any_goals (first | assumption | with_reducible apply class_by_exc X Z hx hc | wp_step))
end
end L2

set_option Elab.async false
set_option linter.all false
set_option maxRecDepth 100000
set_option maxHeartbeats 1000000
namespace L2
open PySem PySem.Spec PyProof.Rows
/-! ### isinstance of a caught exception -/
theorem kitx_exc {K : PySem.W.Frag} {e C : Addr} (Z : ExcC K C) : PySem.W.KitX K (.ref e) (.ref C) (fun h => ∃ ob, h.get? e = some ob ∧ ob.cls = .ref C) where
  ty := fun _ h _ ⟨ob, h1, h2⟩ => h2 ▸ (PySem.W.Looks.ld h1).andThen .now
  it := fun _ _ X _ => by
    obtain ⟨_, z⟩ := Z.cl
    unfold PySem.W.clsIn at z
    split at z
    · rename_i c' d' cd' sl' ho
      intro A' Q' E' s' k q
      unfold isType loadHead
      exact wpAny_bind (wpAny_loadPart (k _ _ (X _ _ ho)) (wpAny_pure q))
    · cases z
  ne := fun h tp dd its n sl X htp => by
    refine Bool.eq_false_iff.mpr fun q => ?_
    have e : C = tp := Value.ref.inj (beq_iff_eq.mp q)
    subst e
    obtain ⟨_, z⟩ := Z.cl
    unfold PySem.W.clsIn at z
    split at z
    · rename_i c' d' cd' sl' ho
      have z := (X _ _ ho).symm.trans htp
      cases z
    · cases z
  ca := fun {_ _ _ _ _ s} X p k => by
    obtain ⟨hh, g, d, t, os⟩ := s
    obtain ⟨ob, h1, h2⟩ := p
    exact class_attr_exc X Z h1 h2 k
theorem bt_ValueError : bootBuiltins "ValueError" = some (.type "ValueError") := by decide +kernel
section
variable {X : Cx}
noncomputable def rIsX (K : PySem.W.Frag) : List V → Hp → VK → Prop := fun xs H Q => ∃ e C b, H e = some (excO e C) ∧ ExcC K C ∧ ((∃ D, xs = [.ref e, .ref D] ∧ PySem.W.kitOne K (.ref C) (.ref D) = some b) ∨ ∃ T, xs = [.ref e, .ty T] ∧ PySem.W.kitOne K (.ref C) (.type T) = some b) ∧ Q (.bl b) H
theorem call_isX : CallR X (.builtin "isinstance") (rIsX X.K) := by
  intro pins s σ H xs us Q I r h
  obtain ⟨e, C, b, he, Z, hk, q⟩ := h
  have ho := I.hok e _ he
  obtain ⟨⟨ob, h1, h2, _⟩, _⟩ := ho
  rcases hk with ⟨D, rfl, hk⟩ | ⟨T, rfl, hk⟩
  · obtain ⟨u, v, rfl, rx, ry⟩ := Vals.two r
    cases (show u = Value.ref e from rx)
    cases (show v = Value.ref D from ry)
    exact PySem.W.kia_one (kitx_exc Z) I.kIn ⟨ob, h1, h2⟩ hk (fun z => nomatch z) fun tk => ⟨.bl _, H, I.tok tk, rfl, q⟩
  · obtain ⟨u, v, rfl, rx, ry⟩ := Vals.two r
    cases (show u = Value.ref e from rx)
    cases (show v = Value.type T from ry)
    exact PySem.W.kia_one (kitx_exc Z) I.kIn ⟨ob, h1, h2⟩ hk (fun z => nomatch z) fun tk => ⟨.bl _, H, I.tok tk, rfl, q⟩
theorem k_isX (K : PySem.W.Frag) (h : X.K = K := by rfl) : CallR X (.builtin "isinstance") (rIsX K) := h ▸ call_isX
/-! ### count, index over a list of bools -/
theorem vals_bl : ∀ {bs : List Bool} {us : List Value}, Vals (bs.map V.bl) us → us = bs.map Value.bool
  | [], _, .nil => rfl
  | b :: bs, _, .cons r t => by
    cases (show _ = Value.bool b from r)
    rw [vals_bl t]
    rfl
noncomputable def isB (b : Bool) : Value → Bool
  | .bool a => a == b
  | _ => false
noncomputable def rCountB : V → List V → Hp → VK → Prop := fun x vs H Q => ∃ (l : Addr) (bs : List Bool) (b : Bool), x = .ref l ∧ vs = [.bl b] ∧ H l = some (.lst (bs.map V.bl)) ∧ Q (.int (bs.countP (· == b) : Nat)) H
theorem mt_countB : MtM X "list.count" rCountB := by
  intro pins s σ H x vs v us Q I rx rv h
  obtain ⟨l, bs, b, rfl, rfl, hH, q⟩ := h
  cases (show v = Value.ref l from rx)
  obtain ⟨u, rfl, ru⟩ := rv.one
  cases (show u = Value.bool b from ru)
  obtain ⟨z, its, n, r, hl, e⟩ := I.lstM hH
  obtain rfl := vals_bl r
  refine call_meets F.slot_list_count ⟨_, e, rfl⟩ F.entry_list_count (F.args_list_count_2 _ _) (SeqAt.list_countAt l _ n none #[] (.bool b) (isB b)) ⟨e, fun y hy => ?_, ?_⟩
  · have hy' : y ∈ bs.map Value.bool := by simpa using hy
    obtain ⟨a, _, rfl⟩ := List.mem_map.mp hy'
    exact SeqAt.EqAt.bool_bool a b
  · refine ⟨.int _, H, I.tok _, ⟨_, rfl⟩, ?_⟩
    have : List.countP (isB b) (List.map Value.bool bs).toArray.toList = bs.countP (· == b) := by
      rw [List.toList_toArray, List.countP_map]
      rfl
    rw [this]
    exact q
noncomputable def rIndexB : V → List V → Hp → VK → Prop := fun x vs H Q => ∃ (l : Addr) (bs : List Bool) (b : Bool) (j : Nat), x = .ref l ∧ vs = [.bl b] ∧ H l = some (.lst (bs.map V.bl)) ∧ bs[j]? = some b ∧ (∀ m, m < j → bs[m]? ≠ some b) ∧ Q (.int (j : Nat)) H
theorem mt_indexB : MtM X "list.index" rIndexB := by
  intro pins s σ H x vs v us Q I rx rv h
  obtain ⟨l, bs, b, j, rfl, rfl, hH, hj, hno, q⟩ := h
  cases (show v = Value.ref l from rx)
  obtain ⟨u, rfl, ru⟩ := rv.one
  cases (show u = Value.bool b from ru)
  obtain ⟨z, its, n, r, hl, e⟩ := I.lstM hH
  obtain rfl := vals_bl r
  obtain ⟨hlt, hb⟩ := List.getElem?_eq_some_iff.mp hj
  have zz : (bs.map V.bl).length ≤ sizeLine := by simpa using z
  rw [List.length_map] at zz
  have hsm : (j : Int) < 2 ^ 63 - 1 := by
    have : sizeLine < 2 ^ 62 := by decide
    omega
  refine call_meets F.slot_list_index ⟨_, e, rfl⟩ F.entry_list_index (F.args_list_index_2 _ _) (SeqAt.list_indexAt l _ n none #[] (.bool b) (isB b) j (by simpa using hlt) hsm (by simp [isB, hb]) (fun m hm hmj => ?_)) ⟨e, fun y hy => ?_, ?_⟩
  · have hm' : m < bs.length := by simpa using hm
    have := hno m hmj
    rw [List.getElem?_eq_getElem hm'] at this
    have hne : bs[m] ≠ b := fun z => this (by rw [z])
    simp [isB, hne]
  · have hy' : y ∈ bs.map Value.bool := by simpa using hy
    obtain ⟨a, _, rfl⟩ := List.mem_map.mp hy'
    exact SeqAt.EqAt.bool_bool a b
  · exact ⟨.int _, H, I.tok _, ⟨_, rfl⟩, q⟩
end
/-! ### the answers about classes, out of plain ones -/
theorem kit_no {K : PySem.W.Frag} {C D : Addr} {cd : ClassData} (h0 : (Value.ref C == Value.ref D) = false) (h1 : PySem.W.clsIn K D = some cd) (h2 : PySem.W.typeIn K (.ref D) = some (.type "type")) (h3 : PySem.W.subIn K (.ref C) (.ref D) = some false) : PySem.W.kitOne K (.ref C) (.ref D) = some false := by
  unfold PySem.W.kitOne PySem.W.kitCls
  rw [if_neg (by rw [h0]; exact Bool.false_ne_true)]
  dsimp only
  rw [h1, h2]
  exact (if_pos rfl).trans h3
theorem kit_yes {K : PySem.W.Frag} {C : Addr} : PySem.W.kitOne K (.ref C) (.ref C) = some true := by
  unfold PySem.W.kitOne
  rw [if_pos (by simp)]
theorem kit_val {K : PySem.W.Frag} {C : Addr} (h3 : PySem.W.subIn K (.ref C) (.type "ValueError") = some true) : PySem.W.kitOne K (.ref C) (.type "ValueError") = some true := by
  unfold PySem.W.kitOne PySem.W.kitCls
  rw [if_neg (by simp)]
  exact (if_pos (by decide +kernel)).trans h3
theorem exm_of {K : PySem.W.Frag} {C D : Addr} {cd : ClassData} (h0 : PySem.W.subIn K (.ref D) (.type "BaseException") = some true) (h1 : PySem.W.clsIn K D = some cd) (h2 : PySem.W.typeIn K (.ref D) = some (.type "type")) (h3 : PySem.W.subIn K (.ref C) (.ref D) = some true) : PySem.W.exmOne K (.ref C) (.ref D) = some true := by
  unfold PySem.W.exmOne PySem.W.kitCls
  rw [h0, if_pos (by rfl)]
  dsimp only
  rw [h1, h2]
  exact (if_pos rfl).trans h3
/-! ### a call within an except suite -/
structure RoomH (k : Nat) (A : Around) : Prop where
  dp : A.depth + 3 * k + 5 < recursionLimit
  un : A.units + 16 * k + 200 < cLine
theorem Room.mark {k : Nat} {A : Around} (r : Room k A) (v : Option Value) : RoomH k (A.mark v) := ⟨r.dp, r.un⟩
theorem RoomH.mono {j k : Nat} {A : Around} (r : RoomH k A) (h : j ≤ k) : RoomH j A := ⟨by have := r.dp; omega, by have := r.un; omega⟩
theorem RoomH.deeper {k : Nat} {A : Around} (r : RoomH (k + 1) A) (env : Env) : RoomH k (A.deeper env) := ⟨by have := r.dp; show A.depth + 1 + 3 * k + 5 < _; omega, by have := r.un; show A.units + 3 + 16 * k + 200 < _; omega⟩
theorem RoomH.units {k : Nat} {A : Around} (r : RoomH k A) : A.units + 64 < cLine := by have := r.un; omega
theorem RoomH.units0 {k : Nat} {A : Around} (r : RoomH k A) : A.units < cLine := by have := r.un; omega
structure FnOkH (P : Program) (w : World) (K : PySem.W.Frag) (mg : Str → Option Value) (base : Heap) (k : Nat) (f : Addr) (fd : FuncData) (ps : List Str) (sp : Sp) : Prop where
  len : ∀ vs H Q E, sp vs H Q E → vs.length = ps.length
  run : ∀ (A : Around) (outer : List Env) (s : Shared) (H : Hp) (args : Args) (us : List Value) (vs : List V) (Q : VK), RoomH k A → Env0 P w K mg base A outer s H → BindsTo s fd args (ps.zip us) → Vals vs us → sp vs H Q E0 →
    codeAny (model P w) A (.call (.ref f) args) (CR CX0 outer P w H s Q E0) s
noncomputable abbrev cxH (P : Program) (w : World) (K : PySem.W.Frag) (mg : Str → Option Value) (base : Heap) (N : List Str) (qual : Str) (scope : Scope) (f : Addr) (cd : Value) (A : Around) (outer : List Env) (s : Shared) (H : Hp) : Cx :=
  { cxOf CX0 P w K mg base N qual scope f cd A outer s H E0 with calm := false, xe := fun _ _ => False }
section
variable {P : Program} {w : World} {K : PySem.W.Frag} {mg : Str → Option Value} {base : Heap}
theorem Fun.okH {x qual : Str} {st : Stmt} {f : Addr} {fd : FuncData} {N ps : List Str} {k : Nat} {sp : Sp} (F : Fun K x qual st f fd) (S : FnScope N ps (defScope st)) (len : ∀ vs H Q E, sp vs H Q E → vs.length = ps.length)
    (hbody : ∀ (cdv : Value) (A : Around) (outer : List Env) (s : Shared) (H : Hp) (vs : List V) (Q : VK), RoomH k (A.deeper (envOfC qual (defScope st) s.heap.objs.size f cdv)) → sp vs H Q E0 →
      ∃ t, PSs (cxH P w K mg base N qual (defScope st) f cdv A outer s H) (defBody st) t ∧ t { nx := fun _ H' => Q .non H', rt := Q } (start N vs) H) : FnOkH P w K mg base (k + 1) f fd ps sp := by
  obtain ⟨oc, od, kV, doc, pm, an, cdv, ct, osl, rfl, lk, hcd⟩ := F.ex
  refine ⟨len, fun A outer s H args us vs Q hr e0 hb r hsp => ?_⟩
  have hl := len _ _ _ _ hsp
  have KX : K.In s.heap := e0.mod.kin.keeps fun b o e => (e0.bs b o e).1
  have lim : s.heap.NoLimit := e0.mod.nolimit.keeps fun b o e => (e0.bs b o e).1
  have hkind : ∀ y ∈ ps.zip us, (defScope st).names.lookup y.1 = some .local ∨ ((defScope st).names.lookup y.1 = some .cell ∧ ((cellsFrom (s.heap.objs.size + 1) (defScope st).names []).lookup y.1).isSome = true) := fun ⟨n, v⟩ hy => by
    rcases S.par n (List.of_mem_zip hy).1 with q | q
    · exact .inl q
    · exact .inr ⟨q, PySem.W.cellsFrom_some _ _ _ (.inl q)⟩
  refine codeAny_call_function (by have := hr.dp; omega) (KX _ _ lk) rfl S.co S.gen rfl (PySem.W.codeRec_of KX hcd) (hb _ _ _ _ ?_)
  refine wpAny_newFunctionEnv_cells S.kind hkind fun env he s1 x => ?_
  subst he
  refine ⟨lim.keeps x.toInCall.keep, codeAny_func ?_⟩
  obtain ⟨t, ht, hq⟩ := hbody cdv A outer s H vs Q (hr.deeper _) hsp
  have e0' : Env0 P w K mg base { A with handled := none } outer s H := ⟨e0.frames, e0.mod, e0.bs, e0.bsz, e0.funs, e0.frf, e0.hok, e0.bare⟩
  have I0 : Inv (cxOf CX0 P w K mg base N qual (defScope st) f cdv { A with handled := none } outer s H E0) [] (start N vs) H s1 := inv_start S rfl e0' hl r x
  have I : Inv (cxH P w K mg base N qual (defScope st) f cdv A outer s H) [] (start N vs) H s1 :=
    ⟨⟨I0.ok.mod, I0.ok.kind, I0.ok.glob, I0.ok.blt, I0.ok.above, I0.ok.inj, I0.ok.has, I0.ok.cab, (fun z => absurd z Bool.false_ne_true), Around.frames_deeper e0.frames, I0.ok.stk, I0.ok.exf, I0.ok.bs, I0.ok.bsz, I0.ok.noex, I0.ok.exfs, I0.ok.funs, I0.ok.frf⟩, I0.os, I0.bare, I0.base, I0.loc, I0.cell, I0.free, I0.freeC, I0.pin, I0.hok, I0.len⟩
  refine wpAny_mono (ht [] s1 (start N vs) H _ I hq) (fun fl s' hs => ?_) fun e s' hs => False.elim hs
  have fin : ∀ {σ' : St} {H' : Hp} {v : V} {u : Value}, Inv (cxH P w K mg base N qual (defScope st) f cdv A outer s H) [] σ' H' s' → RelV v u → Q v H' → CE outer P w H s Q u s' :=
    fun {σ' H' v u} J rv q => ⟨v, H', J.os, J.bare, J.base, J.hok, rv, q⟩
  cases fl with
  | ret u =>
    obtain ⟨v, σ', H', J, rv, q⟩ := hs
    exact fin J rv q
  | next =>
    obtain ⟨σ', H', J, q⟩ := hs
    exact fin (v := V.non) (u := Value.none) J rfl q
  | brk =>
    obtain ⟨_, _, _, q⟩ := hs
    exact False.elim q
  | cont =>
    obtain ⟨_, _, _, q⟩ := hs
    exact False.elim q
end
section
variable {X : Cx} {k : Nat} {f : Addr} {fd : FuncData} {ps : List Str} {sp : Sp} {x : Str} {p pos : Pos} {e : Expr} {es : List Expr} {t : TA}
theorem pe_callH (F : FnOkH X.prog X.w X.K X.mg X.base k f fd ps sp) (hr : RoomH k X.A) (hg : Gl X x) (hm : X.mg x = some (.ref f)) (hk : PySem.W.keepIn X.K (.ref f) = true) (hb : Binds X.K fd ps [])
    (ha : PA X (e :: es) t) (hdb : (x == ("__debug__" : Str)) = false := by decide) (he : starEach (e :: es) X.env = (false, eval e X.env) :: starEach es X.env := by rfl) (hpl : (backTo pos (starEach es X.env)).any (·.1) = false := by rfl) :
    PE X (.Call (.Name x p) (e :: es) [] pos) (tCall sp [] E0 t) := by
  intro pins s σ H Q I h
  refine wpAny_Call_Name_kw (ld_glob I hg hm ?_ hdb)
  refine PySem.W.callWith_K (h₀ := X.base) I.ok.mod.kin hk (thn (ha pos pins s σ H _ I h) fun us s1 ⟨vs, H1, I1, r, q⟩ => ⟨I1.kIn, ?_⟩) he hpl
  have q' : sp vs H1 Q E0 := by simpa using q
  have hl : us.length = ps.length := by rw [← r.length]; exact F.len _ _ _ _ q'
  have hb' := hb s1 us I1.kIn (by simpa using hl)
  rw [List.append_nil] at hb'
  refine wpAny_call (codeAny_mono (F.run X.A X.stack s1 H1 ⟨us, []⟩ us vs Q hr I1.env0 hb' r q') fun r s' hq => ?_)
  cases r with
  | error e => exact hq.elim
  | ok fl =>
    cases fl with
    | ret u => exact I1.after hq
    | next => exact False.elim hq
    | brk => exact False.elim hq
    | cont => exact False.elim hq
end
section
variable {σ : St} {H : Hp} {Q : VK} {D : Ends} {K : PySem.W.Frag}
theorem rd_isXo {e C D : Addr} {b : Bool} (he : H e = some (excO e C)) (Z : ExcC K C) (hk : PySem.W.kitOne K (.ref C) (.ref D) = some b) (h : Q (.bl b) H) : rIsX K [.ref e, .ref D] H Q := ⟨e, C, b, he, Z, .inl ⟨D, rfl, hk⟩, h⟩
theorem rd_isXt {e C : Addr} {T : String} {b : Bool} (he : H e = some (excO e C)) (Z : ExcC K C) (hk : PySem.W.kitOne K (.ref C) (.type T) = some b) (h : Q (.bl b) H) : rIsX K [.ref e, .ty T] H Q := ⟨e, C, b, he, Z, .inr ⟨T, rfl, hk⟩, h⟩
theorem rd_countB {l : Addr} {bs : List Bool} {b : Bool} (hl : H l = some (.lst (bs.map V.bl))) (h : Q (.int (bs.countP (· == b) : Nat)) H) : rCountB (.ref l) [.bl b] H Q := ⟨l, bs, b, rfl, rfl, hl, h⟩
theorem rd_indexB {l : Addr} {bs : List Bool} {b : Bool} {j : Nat} (hl : H l = some (.lst (bs.map V.bl))) (hj : bs[j]? = some b) (hno : ∀ m, m < j → bs[m]? ≠ some b) (h : Q (.int (j : Nat)) H) : rIndexB (.ref l) [.bl b] H Q := ⟨l, bs, b, j, rfl, rfl, hl, hj, hno, h⟩
theorem rd_raise {E : XK} {C : Addr} {t : TA} (h : t σ H fun vs H1 => vs.length ≤ sizeLine ∧ E (.ref C) none H1) : tRaise E C t D σ H := h
end
end L2

set_option Elab.async false
set_option linter.all false
set_option maxRecDepth 100000
set_option maxHeartbeats 1000000
namespace L2
open PySem PySem.Spec PyProof.Rows
/-! ### written things: tuples and lists of constants, however deep -/
/-- v is d in each heap that keeps what is new in H' -/
noncomputable def Fresh (H H' : Hp) (v : V) (d : PyData) : Prop := ∀ H2 : Hp, (∀ a u, H a = none → H' a = some u → H2 a = some u) → Is H2 v d
inductive FreshAll (H H' : Hp) : List V → List PyData → Prop
  | nil : FreshAll H H' [] []
  | cons {v : V} {d : PyData} {vs : List V} {ds : List PyData} : Fresh H H' v d → FreshAll H H' vs ds → FreshAll H H' (v :: vs) (d :: ds)
theorem Fresh.mono {H H1 H2 H3 : Hp} {v : V} {d : PyData} (s1 : Same H H1) (s2 : Same H2 H3) (h : Fresh H1 H2 v d) : Fresh H H3 v d := fun K k => h K fun a u n e => k a u (by
  cases q : H a with
  | none => rfl
  | some w => rw [s1 _ _ q] at n; cases n) (s2 _ _ e)
theorem FreshAll.mono {H H1 H2 H3 : Hp} (s1 : Same H H1) (s2 : Same H2 H3) : ∀ {vs : List V} {ds : List PyData}, FreshAll H1 H2 vs ds → FreshAll H H3 vs ds
  | _, _, .nil => .nil
  | _, _, .cons h t => .cons (h.mono s1 s2) (t.mono s1 s2)
theorem FreshAll.length {H H' : Hp} : ∀ {vs : List V} {ds : List PyData}, FreshAll H H' vs ds → vs.length = ds.length
  | _, _, .nil => rfl
  | _, _, .cons _ t => by rw [List.length_cons, List.length_cons, t.length]
theorem FreshAll.is {H H' H2 : Hp} (k : ∀ a u, H a = none → H' a = some u → H2 a = some u) : ∀ {vs : List V} {ds : List PyData}, FreshAll H H' vs ds → IsAll H2 vs ds
  | _, _, .nil => .nil
  | _, _, .cons h t => .cons (h H2 k) (t.is k)
theorem FreshAll.mem {H H' : Hp} : ∀ {vs : List V} {ds : List PyData} {v : V}, FreshAll H H' vs ds → v ∈ vs → ∃ d ∈ ds, Fresh H H' v d
  | _, _, _, .nil, h => nomatch h
  | _, _, _, .cons h t, hv => by
    rcases List.mem_cons.mp hv with rfl | hv
    · exact ⟨_, List.mem_cons_self, h⟩
    · obtain ⟨d, hd, f⟩ := t.mem hv
      exact ⟨d, List.mem_cons_of_mem _ hd, f⟩
noncomputable def tLit (d : PyData) : TE := fun _ H Q => ∀ v H', Same H H' → Fresh H H' v d → Q v H'
noncomputable def tLits (ds : List PyData) : TA := fun _ H P => ∀ vs H', Same H H' → FreshAll H H' vs ds → P vs H'
section
variable {X : Cx} {e : Expr} {es : List Expr} {pos : Pos} {d : PyData} {ds : List PyData}
theorem PE.imp {t t' : TE} (h : PE X e t) (k : ∀ σ H Q, t' σ H Q → t σ H Q) : PE X e t' := fun pins s σ H Q I q => h pins s σ H Q I (k σ H Q q)
theorem PA.imp {t t' : TA} (h : PA X es t) (k : ∀ σ H Q, t' σ H Q → t σ H Q) : PA X es t' := fun pos pins s σ H Q I q => h pos pins s σ H Q I (k σ H Q q)
theorem pl_int {i : Int} {j} : PE X (.Constant (.int i) j pos) (tLit (.int i)) := pe_int.imp fun _ H Q q => q _ H (Same.refl H) fun _ _ => .int i
theorem pl_bl {b : Bool} {j} : PE X (.Constant (.bool b) j pos) (tLit (.bool b)) := pe_bl.imp fun _ H Q q => q _ H (Same.refl H) fun _ _ => .bl b
theorem pl_non {j} : PE X (.Constant .none j pos) (tLit .none) := pe_non.imp fun _ H Q q => q _ H (Same.refl H) fun _ _ => .non
theorem pl_str {x : Str} {j} : PE X (.Constant (.str x) j pos) (tLit (.str x)) := pe_str.imp fun _ H Q q => q _ H (Same.refl H) fun _ _ => .str x
theorem pl_neg {i : Int} {j p2} : PE X (.UnaryOp .USub (.Constant (.int i) j p2) pos) (tLit (.int (-i))) := (pe_un un_neg pe_int).imp fun _ H Q q => ⟨i, rfl, q _ H (Same.refl H) fun _ _ => .int (-i)⟩
theorem pls_nil : PA X [] (tLits []) := pa_nil.imp fun _ H P q => q [] H (Same.refl H) .nil
theorem pls_cons (ha : PE X e (tLit d)) (hr : PA X es (tLits ds)) (hs : starEach (e :: es) X.env = (false, eval e X.env) :: starEach es X.env := by rfl) : PA X (e :: es) (tLits (d :: ds)) :=
  (pa_cons ha hr hs).imp fun _ H P q v H1 s1 f1 vs H2 s2 f2 => q (v :: vs) H2 (s1.trans s2) (.cons (f1.mono (Same.refl _) s2) (f2.mono s1 (Same.refl _)))
theorem pl_tup {x1} (h : PA X es (tLits ds)) (hz : ds.length ≤ sizeLine := by decide) : PE X (.Tuple es x1 pos) (tLit (.tuple ds)) :=
  (pe_tup h).imp fun _ H Q q vs H1 s1 f1 => ⟨by rw [f1.length]; exact hz, fun p hp => q _ _ (s1.trans (Same.upd hp)) fun H2 k => .tup (k p _ (by
    cases e : H p with
    | none => rfl
    | some u => rw [s1 _ _ e] at hp; cases hp) upd_same) (f1.is fun a u n e => k a u n (by rw [upd_ne (ne_of_none e hp)]; exact e))⟩
theorem pl_lst (h : PA X es (tLits ds)) (hz : ds.length ≤ sizeLine := by decide) : PE X (.List es pos) (tLit (.list ds)) :=
  (pe_lst h).imp fun _ H Q q vs H1 s1 f1 => ⟨by rw [f1.length]; exact hz, fun p hp => q _ _ (s1.trans (Same.upd hp)) fun H2 k => .lst (Rd.of (k p _ (by
    cases e : H p with
    | none => rfl
    | some u => rw [s1 _ _ e] at hp; cases hp) upd_same)) (f1.is fun a u n e => k a u n (by rw [upd_ne (ne_of_none e hp)]; exact e))⟩
end
/-! ### one of several defs, drawn out of a list, is called -/
inductive CallL (X : Cx) (E : XK) : List (Addr × Sp) → Prop
  | nil : CallL X E []
  | cons {CX : CXT} {k : Nat} {f : Addr} {fd : FuncData} {ps : List Str} {sp : Sp} {l : List (Addr × Sp)} (F : FnOk X.prog X.w X.K X.mg X.base CX k f fd ps sp) (hr : Room k X.A) (hk : PySem.W.keepIn X.K (.ref f) = true) (hb : Binds X.K fd ps []) (hx : Passes CX X E) (r : CallL X E l) : CallL X E ((f, sp) :: l)
noncomputable def tCallS (l : List (Addr × Sp)) (E : XK) (tf : TE) (t : TA) : TE := fun σ H Q => tf σ H fun v H1 => ∃ (i : Nat) (f : Addr) (sp : Sp), l[i]? = some (f, sp) ∧ v = .ref f ∧ t σ H1 fun vs H2 => sp vs H2 Q E
theorem CallL.get {X : Cx} {E : XK} : ∀ {l : List (Addr × Sp)} {i : Nat} {f : Addr} {sp : Sp}, CallL X E l → l[i]? = some (f, sp) → ∃ (CX : CXT) (k : Nat) (fd : FuncData) (ps : List Str), FnOk X.prog X.w X.K X.mg X.base CX k f fd ps sp ∧ Room k X.A ∧ PySem.W.keepIn X.K (.ref f) = true ∧ Binds X.K fd ps [] ∧ Passes CX X E
  | _, _, _, _, .nil, e => by simp at e
  | _, 0, _, _, .cons F hr hk hb hx r, e => by simp at e; obtain ⟨rfl, rfl⟩ := e; exact ⟨_, _, _, _, F, hr, hk, hb, hx⟩
  | _, i + 1, _, _, .cons F hr hk hb hx r, e => r.get (i := i) (by simpa using e)
theorem arm_callS (a b : Expr) (p : Pos) (args : List Expr) (keywords : List Keyword) (pos : Pos) (env : Env) : eval (.Call (.Subscript a b p) args keywords pos) env = (do
    callWith pos (← eval (.Subscript a b p) env) [] (backTo pos (starEach args env)) (backToKw pos (keywordEach keywords env))) := rfl
theorem pe_callS {X : Cx} {E : XK} {l : List (Addr × Sp)} {a b e : Expr} {es : List Expr} {p pos : Pos} {tf : TE} {t : TA} (L : CallL X E l) (hf : PE X (.Subscript a b p) tf) (ha : PA X (e :: es) t)
    (he : starEach (e :: es) X.env = (false, eval e X.env) :: starEach es X.env := by rfl) (hpl : (backTo pos (starEach es X.env)).any (·.1) = false := by rfl) :
    PE X (.Call (.Subscript a b p) (e :: es) [] pos) (tCallS l E tf t) := by
  intro pins s σ H Q I h
  rw [arm_callS]
  refine wpAny_bind (thn (hf pins s σ H _ I h) fun u s1 ⟨v, H1, I1, rv, i, f, sp, hl, ev, q⟩ => ?_)
  subst ev
  cases (show u = Value.ref f from rv)
  obtain ⟨CX, k, fd, ps, F, hr, hk, hb, hx⟩ := L.get hl
  refine PySem.W.callWith_K (h₀ := X.base) I.ok.mod.kin hk (thn (ha pos pins s1 σ H1 _ I1 q) fun us s2 ⟨vs, H2, I2, r, q2⟩ => ⟨I2.kIn, ?_⟩) he hpl
  exact run_fn (dvs := []) F hr hb .nil hx I2 r (by rw [List.append_nil]; exact q2)
theorem rd_callS {l : List (Addr × Sp)} {E : XK} {tf : TE} {t : TA} {σ : St} {H : Hp} {Q : VK} (h : tf σ H fun v H1 => ∃ (i : Nat) (f : Addr) (sp : Sp), l[i]? = some (f, sp) ∧ v = .ref f ∧ t σ H1 fun vs H2 => sp vs H2 Q E) : tCallS l E tf t σ H Q := h
theorem rd_lits {ds : List PyData} {σ : St} {H : Hp} {P : List V → Hp → Prop} (h : ∀ vs H', Same H H' → FreshAll H H' vs ds → P vs H') : tLits ds σ H P := h
end L2

set_option Elab.async false
set_option linter.all false
set_option maxRecDepth 100000
set_option maxHeartbeats 1000000
namespace L2
open PySem PySem.Spec PyProof.Rows
/-! ### sorted of ints -/
section
variable {prog : Program} {w : World} {A : Around} {E : Value → Shared → Prop} {s : Shared}
theorem sortedAll_keep {h : Heap} {vs : List Value} {out : Array Value} {b : Addr} {o : Obj} (e : h.get? b = some o) : (sortedAll h vs out).get? b = some o := by
  have hlt : b < h.objs.size := Heap.lt_size e
  have hsz : ((h.push (seqObj "list" #[] 0)).update h.objs.size (Obj.mapSeq (· ++ vs.toArray))).objs.size = h.objs.size + 1 := by rw [Heap.size_update, size_push']
  have k1 : (((h.push (seqObj "list" #[] 0)).update h.objs.size (Obj.mapSeq (· ++ vs.toArray))).push (seqObj "list" vs.toArray 0)).get? b = some o := by
    rw [Heap.get?_push_ne _ _ _ (by rw [hsz]; exact Nat.ne_of_lt (Nat.lt_succ_of_lt hlt)), Heap.get?_update_ne _ _ _ _ (Nat.ne_of_lt hlt), Heap.get?_push_ne _ _ _ (Nat.ne_of_lt hlt)]
    exact e
  have hlt2 := Heap.lt_size k1
  unfold sortedAll sortedHeap
  rw [Heap.get?_update_ne _ _ _ _ (Nat.ne_of_lt (Nat.lt_succ_of_lt hlt)), Heap.get?_push_ne _ _ _ (by rw [size_push', Heap.size_update]; exact Nat.ne_of_lt (Nat.lt_succ_of_lt hlt2)), Heap.get?_push_ne _ _ _ (by rw [Heap.size_update]; exact Nat.ne_of_lt hlt2), Heap.get?_update_ne _ _ _ _ (Nat.ne_of_lt (Nat.lt_succ_of_lt hlt))]
  exact k1
theorem sortedAll_new {h : Heap} {vs : List Value} {out : Array Value} : ∃ n, (sortedAll h vs out).get? (h.objs.size + 1) = some (seqObj "list" out n) := by
  have hsz : ((h.push (seqObj "list" #[] 0)).update h.objs.size (Obj.mapSeq (· ++ vs.toArray))).objs.size = h.objs.size + 1 := by rw [Heap.size_update, size_push']
  have k1 : (((h.push (seqObj "list" #[] 0)).update h.objs.size (Obj.mapSeq (· ++ vs.toArray))).push (seqObj "list" vs.toArray 0)).get? (h.objs.size + 1) = some (seqObj "list" vs.toArray 0) := by
    rw [← hsz]; exact Heap.get?_push_size _ rfl
  have hlt2 := Heap.lt_size k1
  unfold sortedAll sortedHeap
  generalize ((h.push (seqObj "list" #[] 0)).update h.objs.size (Obj.mapSeq (· ++ vs.toArray))).push (seqObj "list" vs.toArray 0) = G at k1 hlt2
  obtain ⟨e1, ho1⟩ : ∃ e1, (G.update (h.objs.size + 1) (Obj.mapSeq fun _ => (#[] : Array Value))).get? (h.objs.size + 1) = some (seqObj "list" #[] e1) := ⟨_, get?_update_seq k1 (fun _ => #[])⟩
  have ho6 : (((G.update (h.objs.size + 1) (Obj.mapSeq fun _ => (#[] : Array Value))).push (seqObj "tuple" vs.toArray 0)).push (seqObj "list" #[] 0)).get? (h.objs.size + 1) = some (seqObj "list" #[] e1) := by
    rw [Heap.get?_push_ne _ _ _ (by rw [size_push', Heap.size_update]; exact Nat.ne_of_lt (Nat.lt_succ_of_lt hlt2)), Heap.get?_push_ne _ _ _ (by rw [Heap.size_update]; exact Nat.ne_of_lt hlt2)]
    exact ho1
  exact ⟨_, get?_update_seq ho6 fun _ => out⟩
theorem sorted_intsC {l : Addr} {vs : List Value} {ns : List Int} {Q : Value → Shared → Prop} (hl : Col prog w s l vs) (hI : IntsAre vs ns) (h64 : vs.length < 64)
    (h : ∀ (out : Array Value) (ns' : List Int), IntsAre out.toList ns' → ns'.Perm ns → ns'.Pairwise (· ≤ ·) → Q (.ref (s.heap.objs.size + 1)) { s with heap := sortedAll s.heap vs out }) :
    wpAny (model prog w) A (call (.builtin "sorted") [.ref l]) Q E s := by
  have hsl : vs.length ≤ sizeLine := by rw [sizeLine_eq]; omega
  refine Calls.call_function_entry kind_sorted plain_sorted entry_sorted (args_sorted1 _) ?_
  unfold Builtin.«sorted»
  refine wpAny_bind (m := checkCount "sorted" 1 1 _) (wpAny_pure ?_)
  refine wpAny_bind (hl _ _ _ ?_)
  refine wpAny_bind (wpAny_newList ?_ hsl)
  have hsz : ((s.heap.push (seqObj "list" #[] 0)).update s.heap.objs.size (Obj.mapSeq (· ++ vs.toArray))).objs.size = s.heap.objs.size + 1 := by rw [Heap.size_update, size_push']
  have k1 : (((s.heap.push (seqObj "list" #[] 0)).update s.heap.objs.size (Obj.mapSeq (· ++ vs.toArray))).push (seqObj "list" vs.toArray 0)).get? (s.heap.objs.size + 1) = some (seqObj "list" vs.toArray 0) := by
    rw [← hsz]; exact Heap.get?_push_size _ rfl
  show wpAny _ _ _ _ _ { s with heap := ((s.heap.push (seqObj "list" #[] 0)).update s.heap.objs.size (Obj.mapSeq (· ++ vs.toArray))).push (seqObj "list" vs.toArray 0) }
  rw [hsz]
  refine wpAny_bind (wpAny_holding (wpAny_call_entry slot_list_sort ⟨_, k1, rfl⟩ entry_list_sort (list_sort_tree k1 hI h64 fun out ns' a1 a2 a3 => ⟨_, rfl, ?_⟩) (args_list_sort _)))
  exact wpAny_pure ⟨_, rfl, h out ns' a1 a2 a3⟩
end
theorem vals_intsA {us : List Value} {ns : List Int} (h : IntsAre us ns) : Vals (ns.map V.int) us := by
  induction h with
  | nil => exact .nil
  | cons _ _ _ ih => exact .cons ⟨_, rfl⟩ ih
section
variable {X : Cx}
noncomputable def rSortI (K : PySem.W.Frag) : List V → Hp → VK → Prop := fun xs H Q => ∃ (p : Addr) (ns : List Int), xs = [.ref p] ∧ (SqL K H p (ns.map V.int) ∨ SqT K H p (ns.map V.int)) ∧ ns.length < 64 ∧
  ∀ (l : Addr) (ns' : List Int), H l = none → ns'.Perm ns → ns'.Pairwise (· ≤ ·) → Q (.ref l) (upd H l (.lst (ns'.map V.int)))
theorem call_sortI : CallR X (.builtin "sorted") (rSortI X.K) := by
  intro pins s σ H xs us Q I r h
  obtain ⟨p, ns, rfl, hq, h64, q⟩ := h
  obtain ⟨u, rfl, rx⟩ := Vals.one r
  cases (show u = Value.ref p from rx)
  obtain ⟨its, rv, hl, hz⟩ : ∃ its, Vals (ns.map V.int) its ∧ Col X.prog X.w s p its ∧ (ns.map V.int).length ≤ sizeLine := by
    rcases hq with hq | hq
    · obtain ⟨its, rv, pl, hz⟩ := I.list hq
      exact ⟨its, rv, Col.list pl.isList (by rw [← rv.length]; exact hz), hz⟩
    · obtain ⟨its, rv, pl, hz⟩ := I.tuple hq
      exact ⟨its, rv, Col.tup pl (by rw [← rv.length]; exact hz), hz⟩
  have e1 : its.length = ns.length := by rw [← rv.length, List.length_map]
  refine sorted_intsC hl (intsAre_of rv) (by omega) fun out ns' a1 a2 a3 => ?_
  obtain ⟨n, hn⟩ := sortedAll_new (h := s.heap) (vs := its) (out := out)
  have hv := vals_intsA a1
  refine ⟨.ref (s.heap.objs.size + 1), _, I.laid (t' := s.toks) (o := .lst (ns'.map V.int)) (fun b o e => sortedAll_keep e) (Nat.le_succ _) ⟨?_, out.toList, n, hv, by simpa using hn⟩, rfl, q _ ns' (I.hok.fresh (Nat.le_succ _)) a2 a3⟩
  rw [List.length_map, a2.length_eq, ← List.length_map (f := V.int)]
  exact hz
theorem k_sortI (K : PySem.W.Frag) (h : X.K = K := by rfl) : CallR X (.builtin "sorted") (rSortI K) := h ▸ call_sortI
/-! ### range(n) as a value; list and tuple of it -/
noncomputable def rMkR : List V → Hp → VK → Prop := fun xs H Q => ∃ j : Int, xs = [.int j] ∧ ∀ p, H p = none → Q (.ref p) (upd H p (.rng 0 j))
theorem call_mkR : CallR X (.type "range") rMkR := by
  intro pins s σ H xs us Q I r h
  obtain ⟨j, rfl, q⟩ := h
  obtain ⟨u, rfl, rx⟩ := Vals.one r
  obtain ⟨t, rfl⟩ := rx
  refine call_range_1 ⟨.ref s.heap.objs.size, _, I.laid (o := .rng 0 j) (fun b o e => Heap.get?_push_of_some _ e) (Nat.le_refl _) ⟨_, _, _, Heap.get?_push_size _ rfl⟩, rfl, q _ (I.hok.fresh (Nat.le_refl _))⟩
noncomputable def upTo (n : Nat) : List Int := (List.range n).map fun (i : Nat) => (i : Int)
theorem upTo_len (n : Nat) : (upTo n).length = n := by unfold upTo; simp
theorem items_vals {acc : Array Value} {n : Nat} (h : ItemsOf (fun i v => ∃ t, v = .int (0 + (i : Int) * 1) t) acc n) : Vals ((upTo n).map V.int) acc.toList := by
  obtain ⟨hs, hv⟩ := h
  have key : ∀ (l : List Value) (k : Nat), (∀ j v, l[j]? = some v → ∃ t, v = Value.int (((k + j : Nat)) : Int) t) → Vals (((List.range' k l.length).map fun (i : Nat) => (i : Int)).map V.int) l := fun l => by
    induction l with
    | nil => intro k _; exact .nil
    | cons x l ih =>
      intro k hk
      rw [List.length_cons, List.range'_succ, List.map_cons, List.map_cons]
      obtain ⟨t, rfl⟩ := hk 0 x rfl
      refine .cons ⟨t, rfl⟩ (ih (k + 1) fun j v e => ?_)
      obtain ⟨t, rfl⟩ := hk (j + 1) v (by simpa using e)
      exact ⟨t, by rw [show k + 1 + j = k + (j + 1) by omega]⟩
  have := key acc.toList 0 fun j v e => by
    obtain ⟨t, rfl⟩ := hv j v (by simpa using e)
    exact ⟨t, by simp⟩
  rw [Array.length_toList, hs, ← List.range_eq_range'] at this
  exact this
noncomputable def rLstR : List V → Hp → VK → Prop := fun xs H Q => ∃ (p : Addr) (n : Nat), xs = [.ref p] ∧ H p = some (.rng 0 n) ∧ n ≤ 1000 ∧ ∀ l, H l = none → Q (.ref l) (upd H l (.lst ((upTo n).map V.int)))
theorem call_lstR (hc : X.calm = true) : CallR X (.type "list") rLstR := by
  intro pins s σ H xs us Q I r h
  obtain ⟨p, n, rfl, hp, hn, q⟩ := h
  obtain ⟨u, rfl, rx⟩ := Vals.one r
  cases (show u = Value.ref p from rx)
  obtain ⟨t, u, v, ho⟩ := I.hok p _ hp
  refine call_list_range (I.ok.hd hc) ho (small_one (by omega) (by omega) (by omega) (by omega)) (n := n) (by rw [rangeSize_one]; split <;> omega) (by omega) fun h' tk acc c hk hS hacc => ?_
  have hv := items_vals hacc
  refine ⟨.ref s.heap.objs.size, _, I.laid (t' := tk) (o := .lst ((upTo n).map V.int)) hk (Nat.le_refl _) ⟨?_, acc.toList, c, hv, by simpa using hS⟩, rfl, q _ (I.hok.fresh (Nat.le_refl _))⟩
  rw [List.length_map, upTo_len]
  exact Nat.le_of_lt (small1000 hn)
end
end L2

set_option Elab.async false
set_option linter.all false
set_option maxRecDepth 100000
set_option maxHeartbeats 2000000
namespace L2
open PySem PySem.Spec PyProof.Rows
open AutoSeq1 (wpAny_loadPart')
section
variable {prog : Program} {w : World} {A : Around} {E : Value → Shared → Prop} {s : Shared}
theorem collect_range {Q : List Value → Shared → Prop} {r : Addr} {n : Nat} {t u v : Tok} (hh : A.handled = none) (hr : IsRange s.heap r 0 n 1 t u v) (hn : n ≤ 1000)
    (hQ : ∀ h' tk acc, (∀ b o, s.heap.get? b = some o → h'.get? b = some o) → ItemsOf (fun i v => ∃ t, v = .int (0 + (i : Int) * 1) t) acc n → Q acc.toList { s with heap := h', toks := tk }) :
    wpAny (model prog w) A (collect (.ref r)) Q E s := by
  have hsz : Builtin.Range.rangeSize 0 (n : Int) 1 = (n : Int) := by rw [rangeSize_one]; split <;> omega
  unfold collect
  refine wpAny_bind (wpAny_runValue (codeAny_builtin F.entry_proto_collect ?_))
  rw [Around.under_plainId F.plain_proto_collect _]
  show wpAny _ A.in1 (newList [] >>= fun l => again (.builtin "list.__iadd__" ⟨[l, .ref r], []⟩)) _ _ s
  refine wpAny_bind (wpAny_newObj_type ?_)
  refine wpAny_pure ⟨plainId_quiet F.plain_list_iadd _, codeAny_builtin F.entry_list_iadd ?_⟩
  rw [Around.under_plainId F.plain_list_iadd _]
  show wpAny _ A.in1 (Builtin.List.listExtendWith (.ref s.heap.objs.size) (.ref r) (.ref s.heap.objs.size)) _ _ _
  have hS : (s.heap.push { cls := .type "list", data := .seq ([] : List Value).toArray }).get? s.heap.objs.size = some { cls := .type "list", data := .seq #[] 0 } := Heap.get?_push_size _ rfl
  refine wpAny_mono (wpAny_extend_range (A := A) (R := fun r' s' => ∃ h' tk acc c, r' = .ok (.ret (.ref s.heap.objs.size)) ∧ s' = { s with heap := h', toks := tk } ∧ (∀ b o, s.heap.get? b = some o → h'.get? b = some o) ∧
      h'.get? s.heap.objs.size = some { cls := .type "list", dict := none, data := .seq acc c, slots := #[] } ∧ ItemsOf (fun i v => ∃ t, v = .int (0 + (i : Int) * 1) t) acc n)
    (s := { s with heap := s.heap.push { cls := .type "list", data := .seq ([] : List Value).toArray } }) hh (Heap.get?_push_of_some _ hr) (small_one (by omega) (by omega) (by omega) (by omega)) hsz (by omega) _ _ 0 hS
    fun h' tk acc c hk hS' hacc => ⟨h', tk, acc, c, rfl, rfl, fun b o e => hk b o (Nat.ne_of_lt (Heap.lt_size e)) (Heap.get?_push_of_some _ e), hS', hacc⟩) (fun fin s' h => ?_) (fun e s' h => ?_)
  · have fin' : ∀ h' tk acc c, (∀ b o, s.heap.get? b = some o → h'.get? b = some o) → h'.get? s.heap.objs.size = some { cls := .type "list", dict := none, data := .seq acc c, slots := #[] } → ItemsOf (fun i v => ∃ t, v = .int (0 + (i : Int) * 1) t) acc n →
        wpAny (model prog w) A (match Value.ref s.heap.objs.size with
          | Value.ref a => do
            match (← load a).data with
              | Data.seq xs _ => pure xs.toList
              | _ => unsupported "internal:collect"
          | _ => unsupported "internal:collect") Q E { s with heap := h', toks := tk } := fun h' tk acc c hk hS' hacc => by
      show wpAny _ A (load s.heap.objs.size >>= _) _ _ _
      refine wpAny_bind (wpAny_load hS' ?_)
      exact wpAny_pure (hQ h' tk acc hk hacc)
    cases fin with
    | done f =>
      obtain ⟨h', tk, acc, c, e, rfl, hk, hS', hacc⟩ := h
      cases e
      exact fin' h' tk acc c hk hS' hacc
    | again c' => exact ⟨h.1, codeAny_mono h.2 fun r' s'' hr' => by
        obtain ⟨h', tk, acc, c, rfl, rfl, hk, hS', hacc⟩ := hr'
        exact fin' h' tk acc c hk hS' hacc⟩
  · obtain ⟨h', tk, acc, c, e, _⟩ := h
    cases e
theorem meets_tuple_new_range (r : Addr) (n : Nat) (t u v : Tok) (hn : n ≤ 1000) :
    Meets (Builtin.«tuple.__new__» ⟨[.type "tuple", .ref r], []⟩)
      (fun A R s => A.handled = none ∧ IsRange s.heap r 0 n 1 t u v ∧ ∀ (h' : Heap) (tk : Nat) (acc : Array Value), (∀ b o', s.heap.get? b = some o' → h'.get? b = some o') → ItemsOf (fun i v => ∃ t, v = .int (0 + (i : Int) * 1) t) acc n →
        R (.ok (.ret (.ref h'.objs.size))) { s with heap := h'.push { cls := .type "tuple", data := .seq acc }, toks := tk }) :=
  .of_wp fun prog w A R s h => by
    obtain ⟨hp, g, d, tk, os⟩ := s; obtain ⟨hh, hr, h⟩ := h
    have hsub := sub_tuple_self
    have hinit := init_tuple_lookup
    have hmh := madeHere_tuple
    have hT : Shared.TypeIs ⟨hp, g, d, tk, os⟩ (.ref r) "range" := ⟨_, hr, rfl⟩
    have hr' : hp.get? r = some { cls := .type "range", data := .fields #[.int 0 t, .int n u, .int 1 v] } := hr
    wp_walk using wpAny_loadPart' hr', wpAny_typeOf hT, collect_range (A := A.in1) (s := ⟨hp, g, d, tk, os⟩) (show A.in1.handled = none from hh) hr hn
    intro h' tk' acc hk hacc
    show wpAny _ _ (Builtin.Tuple.tupleExact acc.toList.toArray >>= fun v => ret v) _ _ _
    unfold Builtin.Tuple.tupleExact
    refine wpAny_bind (wpAny_newObj_type ?_ (by
      show acc.toList.toArray.size ≤ sizeLine
      have := hacc.1
      have h2 := small1000 hn
      simp only [Array.toArray_toList]
      omega))
    refine wpAny_pure ⟨_, rfl, ?_⟩
    have e : acc.toList.toArray = acc := by simp
    rw [e]
    exact h h' tk' acc hk hacc
end
section
variable {X : Cx}
noncomputable def rTupR : List V → Hp → VK → Prop := fun xs H Q => ∃ (p : Addr) (n : Nat), xs = [.ref p] ∧ H p = some (.rng 0 n) ∧ n ≤ 1000 ∧ ∀ l, H l = none → Q (.ref l) (upd H l (.tup ((upTo n).map V.int)))
theorem call_tupR (hc : X.calm = true) : CallR X (.type "tuple") rTupR := by
  intro pins s σ H xs us Q I r h
  obtain ⟨p, n, rfl, hp, hn, q⟩ := h
  obtain ⟨u, rfl, rx⟩ := Vals.one r
  cases (show u = Value.ref p from rx)
  obtain ⟨t, u, v, ho⟩ := I.hok p _ hp
  refine callType_new F.called_tuple (by decide) (F.typeCall_tuple_1 _) (F.newCall_tuple_1 _) (fun obj => F.args_object_init_2 obj _) F.entry_tuple_new (meets_tuple_new_range p n t u v hn)
    ⟨I.ok.hd hc, ho, fun h' tk acc hk hacc => ⟨⟨_, Heap.get?_push_size _ rfl, rfl⟩, ?_⟩⟩
  have hv := items_vals hacc
  have hf : H h'.objs.size = none := by
    cases e : H h'.objs.size with
    | none => rfl
    | some o =>
      obtain ⟨ob, h1⟩ := (I.hok _ _ e).there
      exact absurd (Heap.lt_size (hk _ _ h1)) (Nat.lt_irrefl _)
  have hg : s.heap.get? h'.objs.size = none := by
    cases e : s.heap.get? h'.objs.size with
    | none => rfl
    | some o => exact absurd (Heap.lt_size (hk _ _ e)) (Nat.lt_irrefl _)
  refine ⟨.ref h'.objs.size, _, ?_, rfl, q _ hf⟩
  obtain ⟨m, hm, _⟩ := id I.loc
  have kk : ∀ b u, s.heap.get? b = some u → (h'.push { cls := .type "tuple", data := .seq acc }).get? b = some u := fun b u e => Heap.get?_push_of_some _ (hk b u e)
  have neL : ∀ b u, H b = some u → b ≠ h'.objs.size := fun b u e z => by rw [z, hf] at e; cases e
  refine I.step (g' := s.gens) (d' := s.drawn) (t' := tk) (ch := []) (fun _ z => nomatch z) (fun b o _ _ _ e _ => kk b o e) (fun b o _ _ _ e _ => ⟨o.slots, kk b o e⟩)
    (fun b o _ e n => by rw [upd_ne (fun z => by rw [z, hg] at e; cases e)]; exact n) (fun b o _ e => ⟨o, kk b o e⟩)
    (fun b xs e => by rw [upd_ne (neL _ _ e)]; exact e) (fun b o u e => by rw [upd_ne (neL _ _ e)]; exact e) (fun b ps e => ⟨#[], by rw [upd_ne (neL _ _ e), e]; simp⟩) (fun m' hm' => hm'.keeps kk) (fun b u e => ?_) I.bare
  by_cases hb : b = h'.objs.size
  · subst hb
    rw [upd_same] at e
    cases e
    refine ⟨?_, acc.toList, hv, ⟨_, Heap.get?_push_size _ rfl, rfl, 0, by simp⟩, _, Heap.get?_push_size _ rfl, rfl⟩
    rw [List.length_map, upTo_len]
    exact Nat.le_of_lt (small1000 hn)
  · rw [upd_ne hb] at e
    exact (I.hok b u e).stay (fun c x _ z => kk c x z) (fun c z => by rw [upd_ne (neL _ _ z)]; exact z) fun c xs z => by rw [upd_ne (neL _ _ z)]; exact z
/-! ### a tuple times an int -/
theorem noFill_tuple_mul : fillsNumberSlot (.type "tuple") "mul" = pure false :=
  PySem.fillsNumberSlot_seq (id := "tuple.__mul__") (r := some (.builtin "tuple.__rmul__")) F.slot_tuple_mul.lookup (by decide +kernel) F.slot_tuple_rmul.lookup (by decide +kernel)
theorem repeat_tuple : seqRepeat? (.type "tuple") = pure (some (.builtin "tuple.__mul__")) := by
  unfold seqRepeat?
  rw [PySem.seqSlot_of (T := "tuple") (name := "__mul__") (id := "tuple.__mul__") F.slot_tuple_mul.lookup (by decide +kernel), PySem.seqSlot_of (T := "tuple") (name := "__rmul__") (id := "tuple.__rmul__") F.slot_tuple_rmul.lookup (by decide +kernel)]
  rfl
theorem int_rmul_tuple (a : Int) (t : Tok) (l : Addr) (items : Array Value) (n : Nat) (dd : Option Addr) (sl : Array (Option Value)) :
    Meets (Builtin.«int.__rmul__» ⟨[.int a t, .ref l], []⟩) (fun _ R s => s.heap.get? l = some { cls := .type "tuple", dict := dd, data := .seq items n, slots := sl } ∧ R (.ok (.ret Value.notImplemented)) s) :=
  .of_wp fun prog w A R s h => by obtain ⟨hp, g, d, tk, os⟩ := s; obtain ⟨hl, h⟩ := h; wp_walk; exact ⟨_, rfl, h⟩
theorem tuple_mul_meets (l : Addr) (items : Array Value) (n : Nat) (dd : Option Addr) (sl : Array (Option Value)) (k : Int) (t : Tok) (h0 : items.isEmpty = false) (h2 : 2 ≤ k) (hk : k ≤ 1000) (hz : items.size * k.toNat ≤ sizeLine) :
    Meets (Builtin.«tuple.__mul__» ⟨[.ref l, .int k t], []⟩) (fun _ R s => s.heap.get? l = some { cls := .type "tuple", dict := dd, data := .seq items n, slots := sl } ∧
      R (.ok (.ret (.ref s.heap.objs.size))) { s with heap := s.heap.push { cls := .type "tuple", data := .seq ((List.replicate k.toNat items).foldl (· ++ ·) #[]) } }) :=
  .of_wp fun prog w A R s h => by
    obtain ⟨hp, g, d, tk, os⟩ := s; obtain ⟨hl, h⟩ := h
    have hT : Shared.TypeIs ⟨hp, g, d, tk, os⟩ (.ref l) "tuple" := ⟨_, hl, rfl⟩
    have f1 := AutoSeq1.idx_int
    wp_walk using wpAny_loadPart' hl, wpAny_typeOf hT
    rw [if_neg (by simp; omega)]
    wp_walk using wpAny_loadPart' hl, wpAny_typeOf hT
    have hz' : (items.size : Int) * k ≤ (sizeLine : Nat) := by
      have e : (items.size : Int) * k = ((items.size * k.toNat : Nat) : Int) := by
        rw [Int.natCast_mul, Int.toNat_of_nonneg (by omega)]
      rw [e]
      exact Int.ofNat_le.mpr hz
    have hs : (sizeLine : Nat) < 2 ^ 40 := by decide
    rw [if_neg (by rw [h0]; simp; omega)]
    try dsimp only
    rw [if_neg (by rw [h0]; simp; omega)]
    try dsimp only
    rw [if_neg (by omega)]
    try dsimp only
    have hm : Builtin.Tuple.tupleTooMany ((items.size : Int) * k) = false := by
      unfold Builtin.Tuple.tupleTooMany
      simp
      omega
    rw [if_neg (by rw [hm]; exact Bool.false_ne_true)]
    try dsimp only
    unfold Builtin.Tuple.tupleExact
    have hl2 : ∀ (m : Nat) (acc : Array Value), (List.foldl (fun x1 x2 => x1 ++ x2) acc (List.replicate m items)).size = acc.size + items.size * m := fun m => by
      induction m with
      | zero => intro acc; simp
      | succ m ih => intro acc; rw [List.replicate_succ, List.foldl_cons, ih, Array.size_append, Nat.mul_succ]; omega
    refine wpAny_bind (wpAny_newObj_type ?_ (by
      show (List.foldl (fun x1 x2 => x1 ++ x2) #[] (List.replicate k.toNat items)).size ≤ sizeLine
      rw [hl2]
      simpa using hz))
    exact wpAny_pure ⟨_, rfl, h⟩
noncomputable def rRepT : R2 := fun x y H Q => ∃ (l : Addr) (k : Nat) (xs : List V), x = .ref l ∧ y = .int (k : Nat) ∧ H l = some (.tup xs) ∧ xs ≠ [] ∧ 2 ≤ k ∧ k ≤ 1000 ∧ xs.length * k ≤ 1000 ∧ ∀ p, H p = none → Q (.ref p) (upd H p (.tup (List.replicate k xs).flatten))
theorem op_repT : OpR X (binaryOp .Mult) rRepT := by
  intro pins s σ H x y v u Q I rx ry h
  obtain ⟨l, k, xs, rfl, rfl, hH, hne, k2, k3, hz, q⟩ := h
  cases (show v = Value.ref l from rx)
  obtain ⟨t, rfl⟩ := ry
  obtain ⟨its, r, ⟨⟨cls, dd, data, sl⟩, ho, hc, n, hd⟩, _⟩ := I.tuple (SqT.of hH)
  simp only at hc hd
  subst hc hd
  have hl : its.length = xs.length := r.length.symm
  have he : its.toArray.isEmpty = false := by
    cases its with
    | nil => exact absurd (r.nil_iff.mp rfl) hne
    | cons a b => simp
  have hzz : its.toArray.size * ((k : Int)).toNat ≤ sizeLine := by
    rw [List.size_toArray, Int.toNat_natCast, hl]
    exact Nat.le_of_lt (small1000 hz)
  have hnew : List.foldl (fun x1 x2 => x1 ++ x2) #[] (List.replicate ((k : Int)).toNat its.toArray) = (List.replicate k its).flatten.toArray := by
    have f0 := foldl_rep its k []
    rw [List.nil_append] at f0
    rw [Int.toNat_natCast]
    exact f0
  refine wpAny_binaryOp_repeat_ref (T := "tuple") (U := "int") (by decide) ⟨_, ho, rfl⟩ (fun s' => typeIs_int s' k t) noFill_tuple_mul F.fills_int_mul F.slot_int_rmul repeat_tuple F.slot_int_index.lookup
    (call_meets F.slot_int_rmul (typeIs_int s k t) F.entry_int_rmul (F.args_int_rmul_2 _ _) (int_rmul_tuple k t l its.toArray n dd sl)
      ⟨ho, rfl, ⟨_, ho, rfl⟩, call_meets F.slot_tuple_mul ⟨_, ho, rfl⟩ F.entry_tuple_mul (F.args_tuple_mul_2 _ _) (tuple_mul_meets l its.toArray n dd sl k t he (by omega) (by omega) hzz) ⟨ho, ?_⟩⟩)
  rw [hnew]
  refine ⟨.ref s.heap.objs.size, _, I.laid (t' := s.toks) (o := .tup (List.replicate k xs).flatten) (fun b o e => Heap.get?_push_of_some _ e) (Nat.le_refl _) ⟨?_, _, r.rep k, IsTupN.new _ _⟩, rfl, q _ (I.hok.fresh (Nat.le_refl _))⟩
  rw [len_rep, Nat.mul_comm]
  exact Nat.le_of_lt (small1000 hz)
end
section
variable {σ : St} {H : Hp} {Q : VK} {K : PySem.W.Frag}
theorem rd_mkR {j : Int} (h : ∀ p, H p = none → Q (.ref p) (upd H p (.rng 0 j))) : rMkR [.int j] H Q := ⟨j, rfl, h⟩
theorem rd_lstR {p : Addr} {n : Nat} (e : H p = some (.rng 0 n)) (hn : n ≤ 1000) (h : ∀ l, H l = none → Q (.ref l) (upd H l (.lst ((upTo n).map V.int)))) : rLstR [.ref p] H Q := ⟨p, n, rfl, e, hn, h⟩
theorem rd_tupR {p : Addr} {n : Nat} (e : H p = some (.rng 0 n)) (hn : n ≤ 1000) (h : ∀ l, H l = none → Q (.ref l) (upd H l (.tup ((upTo n).map V.int)))) : rTupR [.ref p] H Q := ⟨p, n, rfl, e, hn, h⟩
theorem rd_repT {l : Addr} {v : V} {n : Nat} (e : H l = some (.tup [v])) (h2 : 2 ≤ n) (hn : n ≤ 1000) (h : ∀ p, H p = none → Q (.ref p) (upd H p (.tup (List.replicate n v)))) : rRepT (.ref l) (.int n) H Q :=
  ⟨l, n, [v], rfl, rfl, e, by simp, h2, hn, by simpa using hn, fun p hp => by rw [rep_one]; exact h p hp⟩
end
end L2

set_option Elab.async false
set_option linter.all false
set_option maxRecDepth 100000
set_option maxHeartbeats 1000000
namespace L2
open PySem PySem.Spec PyProof.Rows
section
variable {K : PySem.W.Frag} {σ : St} {H : Hp} {Q : VK}
theorem rd_sl {r : V → Option Int → Option Int → Hp → VK → Prop} {te : TE} {tl th : TO} (h : te σ H fun x H1 => tl σ H1 fun l H2 => th σ H2 fun u H3 => r x l u H3 Q) : tSl r te tl th σ H Q := h
theorem rd_noP {P : Option Int → Hp → Prop} (h : P none H) : tNoPart σ H P := h
theorem rd_part {te : TE} {P : Option Int → Hp → Prop} (h : te σ H fun x H1 => ∃ i, x = .int i ∧ P (some i) H1) : tPart te σ H P := h
theorem rd_slT {a : Addr} {xs : List V} {lo hi : Option Int} (e : H a = some (.tup xs)) (hn : ¬ (HT.sIx xs.length 0 lo = 0 ∧ HT.sIx xs.length xs.length hi = xs.length)) (h : ∀ p, H p = none → Q (.ref p) (upd H p (.tup (cutV xs lo hi)))) : rSlT K (.ref a) lo hi H Q := ⟨a, xs, rfl, SqT.of e, hn, h⟩
/-- t[1:] -/
theorem rd_tail {a : Addr} {v : V} {xs : List V} (e : H a = some (.tup (v :: xs))) (h : ∀ p, H p = none → Q (.ref p) (upd H p (.tup xs))) : rSlT K (.ref a) (some 1) none H Q := by
  have e1 : HT.sIx (v :: xs).length 0 (some 1) = 1 := by
    have := HT.sIx_nat (v :: xs).length 0 1
    rw [show ((1 : Nat) : Int) = 1 from rfl] at this
    rw [this, List.length_cons]
    omega
  refine rd_slT e (fun z => by rw [e1] at z; exact absurd z.1 (by decide)) fun p hp => ?_
  have : cutV (v :: xs) (some 1) none = xs := by
    unfold cutV
    rw [e1, HT.sIx_none, List.length_cons]
    simp
  rw [this]
  exact h p hp
/-- t[:-1] -/
theorem rd_init {a : Addr} {v : V} {xs : List V} (e : H a = some (.tup (xs ++ [v]))) (h : ∀ p, H p = none → Q (.ref p) (upd H p (.tup xs))) : rSlT K (.ref a) none (some (-1)) H Q := by
  have e1 : HT.sIx (xs ++ [v]).length (xs ++ [v]).length (some (-1)) = xs.length := by
    show (if (-1 : Int) < 0 then ((-1 : Int) + ((xs ++ [v]).length : Int)).toNat else min (-1 : Int).toNat (xs ++ [v]).length) = _
    rw [if_pos (by decide), List.length_append, List.length_singleton]
    omega
  refine rd_slT e (fun z => by rw [e1, List.length_append, List.length_singleton] at z; omega) fun p hp => ?_
  have : cutV (xs ++ [v]) none (some (-1)) = xs := by
    unfold cutV
    rw [e1, HT.sIx_none]
    simp
  rw [this]
  exact h p hp
theorem rd_sortI {p : Addr} {ns : List Int} (e : H p = some (.tup (ns.map V.int)) ∨ H p = some (.lst (ns.map V.int))) (h64 : ns.length < 64) (h : ∀ (l : Addr) (ns' : List Int), H l = none → ns'.Perm ns → ns'.Pairwise (· ≤ ·) → Q (.ref l) (upd H l (.lst (ns'.map V.int)))) : rSortI K [.ref p] H Q :=
  ⟨p, ns, rfl, e.symm.imp SqL.of SqT.of, h64, h⟩
theorem FreshAll.append {H H' : Hp} : ∀ {vs : List V} {ds : List PyData} {ws : List V} {es : List PyData}, FreshAll H H' vs ds → FreshAll H H' ws es → FreshAll H H' (vs ++ ws) (ds ++ es)
  | _, _, _, _, .nil, h => h
  | _, _, _, _, .cons a t, h => .cons a (t.append h)
theorem upTo_succ (n : Nat) : upTo (n + 1) = upTo n ++ [(n : Int)] := by unfold upTo; rw [List.range_succ, List.map_append]; rfl
theorem mem_upTo {n : Nat} {i : Int} : i ∈ upTo n ↔ 0 ≤ i ∧ i < n := by
  unfold upTo
  rw [List.mem_map]
  constructor
  · rintro ⟨k, hk, rfl⟩
    have := List.mem_range.mp hk
    omega
  · intro h
    exact ⟨i.toNat, List.mem_range.mpr (by omega), by omega⟩
end
/-! written things by one word: Lit (nested terms of PE take long to elaborate) -/
inductive Lit : List Expr → List PyData → Prop
  | nil : Lit [] []
  | int {i : Int} {j p es ds} : Lit es ds → Lit (.Constant (.int i) j p :: es) (.int i :: ds)
  | bl {b : Bool} {j p es ds} : Lit es ds → Lit (.Constant (.bool b) j p :: es) (.bool b :: ds)
  | non {j p es ds} : Lit es ds → Lit (.Constant .none j p :: es) (.none :: ds)
  | str {x : Str} {j p es ds} : Lit es ds → Lit (.Constant (.str x) j p :: es) (.str x :: ds)
  | neg {i : Int} {j p p2 es ds} : Lit es ds → Lit (.UnaryOp .USub (.Constant (.int i) j p2) p :: es) (.int (-i) :: ds)
  | tup {es' ds' x p es ds} : Lit es' ds' → ds'.length ≤ 100 → Lit es ds → Lit (.Tuple es' x p :: es) (.tuple ds' :: ds)
  | lst {es' ds' p es ds} : Lit es' ds' → ds'.length ≤ 100 → Lit es ds → Lit (.List es' p :: es) (.list ds' :: ds)
theorem Lit.pa {X : Cx} {es : List Expr} {ds : List PyData} (h : Lit es ds) : PA X es (tLits ds) := by
  have hz : 100 ≤ sizeLine := by decide
  induction h with
  | nil => exact pls_nil
  | int _ ih => exact pls_cons pl_int ih
  | bl _ ih => exact pls_cons pl_bl ih
  | non _ ih => exact pls_cons pl_non ih
  | str _ ih => exact pls_cons pl_str ih
  | neg _ ih => exact pls_cons pl_neg ih
  | tup _ h _ ih1 ih2 => exact pls_cons (pl_tup ih1 (Nat.le_trans h hz)) ih2
  | lst _ h _ ih1 ih2 => exact pls_cons (pl_lst ih1 (Nat.le_trans h hz)) ih2
end L2

set_option Elab.async false
set_option linter.all false
set_option maxRecDepth 100000
set_option maxHeartbeats 4000000
namespace My
open PySem L2
noncomputable def top (i : Nat) : Stmt := PySem.Challenge.pw_noticed_k13_changes_refused.main.body.getD i (.Pass ⟨0, 0, 0, 0⟩)
noncomputable abbrev s_is_whole : Stmt := top 17
noncomputable abbrev s_is_thing : Stmt := top 18
noncomputable abbrev s_is_pair : Stmt := top 19
noncomputable abbrev s_is_rising : Stmt := top 20
noncomputable abbrev s_is_order : Stmt := top 21
noncomputable abbrev s_is_names : Stmt := top 22
noncomputable abbrev s_need_order : Stmt := top 23
noncomputable abbrev s_need_thing : Stmt := top 24
noncomputable abbrev s_need_names : Stmt := top 25
noncomputable abbrev s_turned : Stmt := top 27
noncomputable abbrev s_renamed : Stmt := top 28
noncomputable abbrev s_number_without : Stmt := top 29
noncomputable abbrev s_without : Stmt := top 30
noncomputable abbrev s_need_room : Stmt := top 31
noncomputable abbrev s_pairs_of_both : Stmt := top 32
noncomputable abbrev s_pairs_across : Stmt := top 33
noncomputable abbrev s_joined : Stmt := top 34
noncomputable abbrev s_laid : Stmt := top 35
noncomputable abbrev s__law_cell_at : Stmt := top 37
noncomputable abbrev s__law_mixed : Stmt := top 38
noncomputable abbrev s__law_draw : Stmt := top 39
noncomputable abbrev s__law_pick : Stmt := top 40
noncomputable abbrev s__law_free : Stmt := top 41
noncomputable abbrev s__law_any : Stmt := top 42
noncomputable abbrev s__law_odd : Stmt := top 43
noncomputable abbrev s__law_which : Stmt := top 44
noncomputable abbrev s__law_ask : Stmt := top 45
noncomputable abbrev s_law : Stmt := top 46
theorem sc_is_whole : FnScope ["value", "low", "high"] ["value", "low", "high"] (defScope s_is_whole) := ⟨rfl, rfl, rfl, by decide +kernel, rfl, by decide +kernel, by decide +kernel⟩
theorem sc_is_thing : FnScope ["value", "many"] ["value", "many"] (defScope s_is_thing) := ⟨rfl, rfl, rfl, by decide +kernel, rfl, by decide +kernel, by decide +kernel⟩
theorem sc_is_pair : FnScope ["value", "many"] ["value", "many"] (defScope s_is_pair) := ⟨rfl, rfl, rfl, by decide +kernel, rfl, by decide +kernel, by decide +kernel⟩
theorem sc_is_rising : FnScope ["pairs"] ["pairs"] (defScope s_is_rising) := ⟨rfl, rfl, rfl, by decide +kernel, rfl, by decide +kernel, by decide +kernel⟩
theorem sc_is_order : FnScope ["value", "many", "pairs"] ["value"] (defScope s_is_order) := ⟨rfl, rfl, rfl, by decide +kernel, rfl, by decide +kernel, by decide +kernel⟩
theorem sc_is_names : FnScope ["value", "many"] ["value", "many"] (defScope s_is_names) := ⟨rfl, rfl, rfl, by decide +kernel, rfl, by decide +kernel, by decide +kernel⟩
theorem sc_need_order : FnScope ["value"] ["value"] (defScope s_need_order) := ⟨rfl, rfl, rfl, by decide +kernel, rfl, by decide +kernel, by decide +kernel⟩
theorem sc_need_thing : FnScope ["value", "many"] ["value", "many"] (defScope s_need_thing) := ⟨rfl, rfl, rfl, by decide +kernel, rfl, by decide +kernel, by decide +kernel⟩
theorem sc_need_names : FnScope ["value", "many"] ["value", "many"] (defScope s_need_names) := ⟨rfl, rfl, rfl, by decide +kernel, rfl, by decide +kernel, by decide +kernel⟩
theorem sc_turned : FnScope ["order", "pairs"] ["order"] (defScope s_turned) := ⟨rfl, rfl, rfl, by decide +kernel, rfl, by decide +kernel, by decide +kernel⟩
theorem sc_renamed : FnScope ["order", "names", "pairs"] ["order", "names"] (defScope s_renamed) := ⟨rfl, rfl, rfl, by decide +kernel, rfl, by decide +kernel, by decide +kernel⟩
theorem sc_number_without : FnScope ["thing", "left_out"] ["thing", "left_out"] (defScope s_number_without) := ⟨rfl, rfl, rfl, by decide +kernel, rfl, by decide +kernel, by decide +kernel⟩
theorem sc_without : FnScope ["order", "thing", "kept", "pairs"] ["order", "thing"] (defScope s_without) := ⟨rfl, rfl, rfl, by decide +kernel, rfl, by decide +kernel, by decide +kernel⟩
theorem sc_need_room : FnScope ["one", "other"] ["one", "other"] (defScope s_need_room) := ⟨rfl, rfl, rfl, by decide +kernel, rfl, by decide +kernel, by decide +kernel⟩
theorem sc_pairs_of_both : FnScope ["one", "other"] ["one", "other"] (defScope s_pairs_of_both) := ⟨rfl, rfl, rfl, by decide +kernel, rfl, by decide +kernel, by decide +kernel⟩
theorem sc_pairs_across : FnScope ["one", "other", "pairs", "less", "more"] ["one", "other"] (defScope s_pairs_across) := ⟨rfl, rfl, rfl, by decide +kernel, rfl, by decide +kernel, by decide +kernel⟩
theorem sc_joined : FnScope ["one", "other", "pairs"] ["one", "other"] (defScope s_joined) := ⟨rfl, rfl, rfl, by decide +kernel, rfl, by decide +kernel, by decide +kernel⟩
theorem sc_laid : FnScope ["one", "other"] ["one", "other"] (defScope s_laid) := ⟨rfl, rfl, rfl, by decide +kernel, rfl, by decide +kernel, by decide +kernel⟩
theorem sc__law_cell_at : FnScope ["_law_script", "_law_k"] ["_law_script", "_law_k"] (defScope s__law_cell_at) := ⟨rfl, rfl, rfl, by decide +kernel, rfl, by decide +kernel, by decide +kernel⟩
theorem sc__law_mixed : FnScope ["_law_script", "_law_k", "_law_many", "_law_drawn"] ["_law_script", "_law_k", "_law_many"] (defScope s__law_mixed) := ⟨rfl, rfl, rfl, by decide +kernel, rfl, by decide +kernel, by decide +kernel⟩
theorem sc__law_draw : FnScope ["_law_script", "_law_town", "_law_many"] ["_law_script", "_law_town", "_law_many"] (defScope s__law_draw) := ⟨rfl, rfl, rfl, by decide +kernel, rfl, by decide +kernel, by decide +kernel⟩
theorem sc__law_pick : FnScope ["_law_script", "_law_town", "_law_some"] ["_law_script", "_law_town", "_law_some"] (defScope s__law_pick) := ⟨rfl, rfl, rfl, by decide +kernel, rfl, by decide +kernel, by decide +kernel⟩
theorem sc__law_free : FnScope ["_law_script", "_law_town", "_law_low", "_law_most", "_law_step", "_law_wide", "_law_many", "_law_line_up", "_law_pairs", "_law_one"] ["_law_script", "_law_town", "_law_low", "_law_most"] (defScope s__law_free) := ⟨rfl, rfl, rfl, by decide +kernel, rfl, by decide +kernel, by decide +kernel⟩
theorem sc__law_any : FnScope ["_law_script", "_law_town", "_law_low", "_law_most", "_law_spoil", "_law_many", "_law_pairs", "_law_k", "_law_one", "_law_other", "_law_way"] ["_law_script", "_law_town", "_law_low", "_law_most"] (defScope s__law_any) := ⟨rfl, rfl, rfl, by decide +kernel, rfl, by decide +kernel, by decide +kernel⟩
theorem sc__law_odd : FnScope ["_law_script", "_law_town", "_law_some"] ["_law_script", "_law_town"] (defScope s__law_odd) := ⟨rfl, rfl, rfl, by decide +kernel, rfl, by decide +kernel, by decide +kernel⟩
theorem sc__law_which : FnScope ["_law_e", "_law_own"] ["_law_e"] (defScope s__law_which) := ⟨rfl, rfl, rfl, by decide +kernel, rfl, by decide +kernel, by decide +kernel⟩
theorem sc__law_ask : FnScope ["_law_what", "_law_one", "_law_other", "_law_e"] ["_law_what", "_law_one", "_law_other"] (defScope s__law_ask) := ⟨rfl, rfl, rfl, by decide +kernel, rfl, by decide +kernel, by decide +kernel⟩
theorem sc_law : FnScope ["_law_script", "_law_town", "_law_odd_here", "_law_order", "_law_other", "_law_many", "_law_names", "_law_wrong", "_law_answers"] ["_law_script"] (defScope s_law) := ⟨rfl, rfl, rfl, by decide +kernel, rfl, by decide +kernel, by decide +kernel⟩
set_option genSizeOf false in
set_option genInjectivity false in
structure Ad where
  a_is_whole : Addr
  d_is_whole : FuncData
  a_is_thing : Addr
  d_is_thing : FuncData
  a_is_pair : Addr
  d_is_pair : FuncData
  a_is_rising : Addr
  d_is_rising : FuncData
  a_is_order : Addr
  d_is_order : FuncData
  a_is_names : Addr
  d_is_names : FuncData
  a_need_order : Addr
  d_need_order : FuncData
  a_need_thing : Addr
  d_need_thing : FuncData
  a_need_names : Addr
  d_need_names : FuncData
  a_turned : Addr
  d_turned : FuncData
  a_renamed : Addr
  d_renamed : FuncData
  a_number_without : Addr
  d_number_without : FuncData
  a_without : Addr
  d_without : FuncData
  a_need_room : Addr
  d_need_room : FuncData
  a_pairs_of_both : Addr
  d_pairs_of_both : FuncData
  a_pairs_across : Addr
  d_pairs_across : FuncData
  a_joined : Addr
  d_joined : FuncData
  a_laid : Addr
  d_laid : FuncData
  a__law_cell_at : Addr
  d__law_cell_at : FuncData
  a__law_mixed : Addr
  d__law_mixed : FuncData
  a__law_draw : Addr
  d__law_draw : FuncData
  a__law_pick : Addr
  d__law_pick : FuncData
  a__law_free : Addr
  d__law_free : FuncData
  a__law_any : Addr
  d__law_any : FuncData
  a__law_odd : Addr
  d__law_odd : FuncData
  a__law_which : Addr
  d__law_which : FuncData
  a__law_ask : Addr
  d__law_ask : FuncData
  a_law : Addr
  d_law : FuncData
  c_Barred : Addr
  c_Full : Addr
  c_NoCount : Addr
  c_NoNames : Addr
  c_NoNumbers : Addr
  c_NoOrder : Addr
  c_NoRow : Addr
  c_NoSeveral : Addr
  c_NoStep : Addr
  c_NoTelling : Addr
  c_NoText : Addr
  c_NoThing : Addr
  c_Nothing : Addr
  c_OrderError : Addr
structure Txt (K : PySem.W.Frag) (mg : Str → Option Value) (t : Ad) : Prop where
  m_is_whole : mg "is_whole" = some (.ref t.a_is_whole)
  F_is_whole : Fun K "is_whole" "is_whole" s_is_whole t.a_is_whole t.d_is_whole
  b_is_whole : Binds K t.d_is_whole ["value", "low", "high"] []
  m_is_thing : mg "is_thing" = some (.ref t.a_is_thing)
  F_is_thing : Fun K "is_thing" "is_thing" s_is_thing t.a_is_thing t.d_is_thing
  b_is_thing : Binds K t.d_is_thing ["value", "many"] []
  m_is_pair : mg "is_pair" = some (.ref t.a_is_pair)
  F_is_pair : Fun K "is_pair" "is_pair" s_is_pair t.a_is_pair t.d_is_pair
  b_is_pair : Binds K t.d_is_pair ["value", "many"] []
  m_is_rising : mg "is_rising" = some (.ref t.a_is_rising)
  F_is_rising : Fun K "is_rising" "is_rising" s_is_rising t.a_is_rising t.d_is_rising
  b_is_rising : Binds K t.d_is_rising ["pairs"] []
  m_is_order : mg "is_order" = some (.ref t.a_is_order)
  F_is_order : Fun K "is_order" "is_order" s_is_order t.a_is_order t.d_is_order
  b_is_order : Binds K t.d_is_order ["value"] []
  m_is_names : mg "is_names" = some (.ref t.a_is_names)
  F_is_names : Fun K "is_names" "is_names" s_is_names t.a_is_names t.d_is_names
  b_is_names : Binds K t.d_is_names ["value", "many"] []
  m_need_order : mg "need_order" = some (.ref t.a_need_order)
  F_need_order : Fun K "need_order" "need_order" s_need_order t.a_need_order t.d_need_order
  b_need_order : Binds K t.d_need_order ["value"] []
  m_need_thing : mg "need_thing" = some (.ref t.a_need_thing)
  F_need_thing : Fun K "need_thing" "need_thing" s_need_thing t.a_need_thing t.d_need_thing
  b_need_thing : Binds K t.d_need_thing ["value", "many"] []
  m_need_names : mg "need_names" = some (.ref t.a_need_names)
  F_need_names : Fun K "need_names" "need_names" s_need_names t.a_need_names t.d_need_names
  b_need_names : Binds K t.d_need_names ["value", "many"] []
  m_turned : mg "turned" = some (.ref t.a_turned)
  F_turned : Fun K "turned" "turned" s_turned t.a_turned t.d_turned
  b_turned : Binds K t.d_turned ["order"] []
  m_renamed : mg "renamed" = some (.ref t.a_renamed)
  F_renamed : Fun K "renamed" "renamed" s_renamed t.a_renamed t.d_renamed
  b_renamed : Binds K t.d_renamed ["order", "names"] []
  m_number_without : mg "number_without" = some (.ref t.a_number_without)
  F_number_without : Fun K "number_without" "number_without" s_number_without t.a_number_without t.d_number_without
  b_number_without : Binds K t.d_number_without ["thing", "left_out"] []
  m_without : mg "without" = some (.ref t.a_without)
  F_without : Fun K "without" "without" s_without t.a_without t.d_without
  b_without : Binds K t.d_without ["order", "thing"] []
  m_need_room : mg "need_room" = some (.ref t.a_need_room)
  F_need_room : Fun K "need_room" "need_room" s_need_room t.a_need_room t.d_need_room
  b_need_room : Binds K t.d_need_room ["one", "other"] []
  m_pairs_of_both : mg "pairs_of_both" = some (.ref t.a_pairs_of_both)
  F_pairs_of_both : Fun K "pairs_of_both" "pairs_of_both" s_pairs_of_both t.a_pairs_of_both t.d_pairs_of_both
  b_pairs_of_both : Binds K t.d_pairs_of_both ["one", "other"] []
  m_pairs_across : mg "pairs_across" = some (.ref t.a_pairs_across)
  F_pairs_across : Fun K "pairs_across" "pairs_across" s_pairs_across t.a_pairs_across t.d_pairs_across
  b_pairs_across : Binds K t.d_pairs_across ["one", "other"] []
  m_joined : mg "joined" = some (.ref t.a_joined)
  F_joined : Fun K "joined" "joined" s_joined t.a_joined t.d_joined
  b_joined : Binds K t.d_joined ["one", "other"] []
  m_laid : mg "laid" = some (.ref t.a_laid)
  F_laid : Fun K "laid" "laid" s_laid t.a_laid t.d_laid
  b_laid : Binds K t.d_laid ["one", "other"] []
  m__law_cell_at : mg "_law_cell_at" = some (.ref t.a__law_cell_at)
  F__law_cell_at : Fun K "_law_cell_at" "_law_cell_at" s__law_cell_at t.a__law_cell_at t.d__law_cell_at
  b__law_cell_at : Binds K t.d__law_cell_at ["_law_script", "_law_k"] []
  m__law_mixed : mg "_law_mixed" = some (.ref t.a__law_mixed)
  F__law_mixed : Fun K "_law_mixed" "_law_mixed" s__law_mixed t.a__law_mixed t.d__law_mixed
  b__law_mixed : Binds K t.d__law_mixed ["_law_script", "_law_k", "_law_many"] []
  m__law_draw : mg "_law_draw" = some (.ref t.a__law_draw)
  F__law_draw : Fun K "_law_draw" "_law_draw" s__law_draw t.a__law_draw t.d__law_draw
  b__law_draw : Binds K t.d__law_draw ["_law_script", "_law_town", "_law_many"] []
  m__law_pick : mg "_law_pick" = some (.ref t.a__law_pick)
  F__law_pick : Fun K "_law_pick" "_law_pick" s__law_pick t.a__law_pick t.d__law_pick
  b__law_pick : Binds K t.d__law_pick ["_law_script", "_law_town", "_law_some"] []
  m__law_free : mg "_law_free" = some (.ref t.a__law_free)
  F__law_free : Fun K "_law_free" "_law_free" s__law_free t.a__law_free t.d__law_free
  b__law_free : Binds K t.d__law_free ["_law_script", "_law_town", "_law_low", "_law_most"] []
  m__law_any : mg "_law_any" = some (.ref t.a__law_any)
  F__law_any : Fun K "_law_any" "_law_any" s__law_any t.a__law_any t.d__law_any
  b__law_any : Binds K t.d__law_any ["_law_script", "_law_town", "_law_low", "_law_most"] []
  m__law_odd : mg "_law_odd" = some (.ref t.a__law_odd)
  F__law_odd : Fun K "_law_odd" "_law_odd" s__law_odd t.a__law_odd t.d__law_odd
  b__law_odd : Binds K t.d__law_odd ["_law_script", "_law_town"] []
  m__law_which : mg "_law_which" = some (.ref t.a__law_which)
  F__law_which : Fun K "_law_which" "_law_which" s__law_which t.a__law_which t.d__law_which
  b__law_which : Binds K t.d__law_which ["_law_e"] []
  m__law_ask : mg "_law_ask" = some (.ref t.a__law_ask)
  F__law_ask : Fun K "_law_ask" "_law_ask" s__law_ask t.a__law_ask t.d__law_ask
  b__law_ask : Binds K t.d__law_ask ["_law_what", "_law_one", "_law_other"] []
  m_law : mg "law" = some (.ref t.a_law)
  F_law : Fun K "law" "law" s_law t.a_law t.d_law
  b_law : Binds K t.d_law ["_law_script"] []
  n_ValueError : mg "ValueError" = none
  n_all : mg "all" = none
  n_bool : mg "bool" = none
  n_int : mg "int" = none
  n_isinstance : mg "isinstance" = none
  n_len : mg "len" = none
  n_list : mg "list" = none
  n_range : mg "range" = none
  n_sorted : mg "sorted" = none
  n_tuple : mg "tuple" = none
  g_Barred : mg "Barred" = some (.ref t.c_Barred)
  g_Full : mg "Full" = some (.ref t.c_Full)
  Z_Full : ExcC K t.c_Full
  v_Full : PySem.W.kitOne K (.ref t.c_Full) (.type "ValueError") = some true
  x_Full : PySem.W.exmOne K (.ref t.c_Full) (.ref t.c_OrderError) = some true
  q_Full_Barred : PySem.W.kitOne K (.ref t.c_Full) (.ref t.c_Barred) = some false
  q_Full_NoCount : PySem.W.kitOne K (.ref t.c_Full) (.ref t.c_NoCount) = some false
  q_Full_NoNames : PySem.W.kitOne K (.ref t.c_Full) (.ref t.c_NoNames) = some false
  q_Full_NoNumbers : PySem.W.kitOne K (.ref t.c_Full) (.ref t.c_NoNumbers) = some false
  q_Full_NoOrder : PySem.W.kitOne K (.ref t.c_Full) (.ref t.c_NoOrder) = some false
  q_Full_NoRow : PySem.W.kitOne K (.ref t.c_Full) (.ref t.c_NoRow) = some false
  q_Full_NoSeveral : PySem.W.kitOne K (.ref t.c_Full) (.ref t.c_NoSeveral) = some false
  q_Full_NoStep : PySem.W.kitOne K (.ref t.c_Full) (.ref t.c_NoStep) = some false
  q_Full_NoTelling : PySem.W.kitOne K (.ref t.c_Full) (.ref t.c_NoTelling) = some false
  q_Full_NoText : PySem.W.kitOne K (.ref t.c_Full) (.ref t.c_NoText) = some false
  q_Full_NoThing : PySem.W.kitOne K (.ref t.c_Full) (.ref t.c_NoThing) = some false
  q_Full_Nothing : PySem.W.kitOne K (.ref t.c_Full) (.ref t.c_Nothing) = some false
  g_NoCount : mg "NoCount" = some (.ref t.c_NoCount)
  Z_NoCount : ExcC K t.c_NoCount
  v_NoCount : PySem.W.kitOne K (.ref t.c_NoCount) (.type "ValueError") = some true
  x_NoCount : PySem.W.exmOne K (.ref t.c_NoCount) (.ref t.c_OrderError) = some true
  q_NoCount_Barred : PySem.W.kitOne K (.ref t.c_NoCount) (.ref t.c_Barred) = some false
  q_NoCount_Full : PySem.W.kitOne K (.ref t.c_NoCount) (.ref t.c_Full) = some false
  q_NoCount_NoNames : PySem.W.kitOne K (.ref t.c_NoCount) (.ref t.c_NoNames) = some false
  q_NoCount_NoNumbers : PySem.W.kitOne K (.ref t.c_NoCount) (.ref t.c_NoNumbers) = some false
  q_NoCount_NoOrder : PySem.W.kitOne K (.ref t.c_NoCount) (.ref t.c_NoOrder) = some false
  q_NoCount_NoRow : PySem.W.kitOne K (.ref t.c_NoCount) (.ref t.c_NoRow) = some false
  q_NoCount_NoSeveral : PySem.W.kitOne K (.ref t.c_NoCount) (.ref t.c_NoSeveral) = some false
  q_NoCount_NoStep : PySem.W.kitOne K (.ref t.c_NoCount) (.ref t.c_NoStep) = some false
  q_NoCount_NoTelling : PySem.W.kitOne K (.ref t.c_NoCount) (.ref t.c_NoTelling) = some false
  q_NoCount_NoText : PySem.W.kitOne K (.ref t.c_NoCount) (.ref t.c_NoText) = some false
  q_NoCount_NoThing : PySem.W.kitOne K (.ref t.c_NoCount) (.ref t.c_NoThing) = some false
  q_NoCount_Nothing : PySem.W.kitOne K (.ref t.c_NoCount) (.ref t.c_Nothing) = some false
  g_NoNames : mg "NoNames" = some (.ref t.c_NoNames)
  Z_NoNames : ExcC K t.c_NoNames
  v_NoNames : PySem.W.kitOne K (.ref t.c_NoNames) (.type "ValueError") = some true
  x_NoNames : PySem.W.exmOne K (.ref t.c_NoNames) (.ref t.c_OrderError) = some true
  q_NoNames_Barred : PySem.W.kitOne K (.ref t.c_NoNames) (.ref t.c_Barred) = some false
  q_NoNames_Full : PySem.W.kitOne K (.ref t.c_NoNames) (.ref t.c_Full) = some false
  q_NoNames_NoCount : PySem.W.kitOne K (.ref t.c_NoNames) (.ref t.c_NoCount) = some false
  q_NoNames_NoNumbers : PySem.W.kitOne K (.ref t.c_NoNames) (.ref t.c_NoNumbers) = some false
  q_NoNames_NoOrder : PySem.W.kitOne K (.ref t.c_NoNames) (.ref t.c_NoOrder) = some false
  q_NoNames_NoRow : PySem.W.kitOne K (.ref t.c_NoNames) (.ref t.c_NoRow) = some false
  q_NoNames_NoSeveral : PySem.W.kitOne K (.ref t.c_NoNames) (.ref t.c_NoSeveral) = some false
  q_NoNames_NoStep : PySem.W.kitOne K (.ref t.c_NoNames) (.ref t.c_NoStep) = some false
  q_NoNames_NoTelling : PySem.W.kitOne K (.ref t.c_NoNames) (.ref t.c_NoTelling) = some false
  q_NoNames_NoText : PySem.W.kitOne K (.ref t.c_NoNames) (.ref t.c_NoText) = some false
  q_NoNames_NoThing : PySem.W.kitOne K (.ref t.c_NoNames) (.ref t.c_NoThing) = some false
  q_NoNames_Nothing : PySem.W.kitOne K (.ref t.c_NoNames) (.ref t.c_Nothing) = some false
  g_NoNumbers : mg "NoNumbers" = some (.ref t.c_NoNumbers)
  g_NoOrder : mg "NoOrder" = some (.ref t.c_NoOrder)
  Z_NoOrder : ExcC K t.c_NoOrder
  v_NoOrder : PySem.W.kitOne K (.ref t.c_NoOrder) (.type "ValueError") = some true
  x_NoOrder : PySem.W.exmOne K (.ref t.c_NoOrder) (.ref t.c_OrderError) = some true
  q_NoOrder_Barred : PySem.W.kitOne K (.ref t.c_NoOrder) (.ref t.c_Barred) = some false
  q_NoOrder_Full : PySem.W.kitOne K (.ref t.c_NoOrder) (.ref t.c_Full) = some false
  q_NoOrder_NoCount : PySem.W.kitOne K (.ref t.c_NoOrder) (.ref t.c_NoCount) = some false
  q_NoOrder_NoNames : PySem.W.kitOne K (.ref t.c_NoOrder) (.ref t.c_NoNames) = some false
  q_NoOrder_NoNumbers : PySem.W.kitOne K (.ref t.c_NoOrder) (.ref t.c_NoNumbers) = some false
  q_NoOrder_NoRow : PySem.W.kitOne K (.ref t.c_NoOrder) (.ref t.c_NoRow) = some false
  q_NoOrder_NoSeveral : PySem.W.kitOne K (.ref t.c_NoOrder) (.ref t.c_NoSeveral) = some false
  q_NoOrder_NoStep : PySem.W.kitOne K (.ref t.c_NoOrder) (.ref t.c_NoStep) = some false
  q_NoOrder_NoTelling : PySem.W.kitOne K (.ref t.c_NoOrder) (.ref t.c_NoTelling) = some false
  q_NoOrder_NoText : PySem.W.kitOne K (.ref t.c_NoOrder) (.ref t.c_NoText) = some false
  q_NoOrder_NoThing : PySem.W.kitOne K (.ref t.c_NoOrder) (.ref t.c_NoThing) = some false
  q_NoOrder_Nothing : PySem.W.kitOne K (.ref t.c_NoOrder) (.ref t.c_Nothing) = some false
  g_NoRow : mg "NoRow" = some (.ref t.c_NoRow)
  g_NoSeveral : mg "NoSeveral" = some (.ref t.c_NoSeveral)
  g_NoStep : mg "NoStep" = some (.ref t.c_NoStep)
  g_NoTelling : mg "NoTelling" = some (.ref t.c_NoTelling)
  g_NoText : mg "NoText" = some (.ref t.c_NoText)
  g_NoThing : mg "NoThing" = some (.ref t.c_NoThing)
  Z_NoThing : ExcC K t.c_NoThing
  v_NoThing : PySem.W.kitOne K (.ref t.c_NoThing) (.type "ValueError") = some true
  x_NoThing : PySem.W.exmOne K (.ref t.c_NoThing) (.ref t.c_OrderError) = some true
  q_NoThing_Barred : PySem.W.kitOne K (.ref t.c_NoThing) (.ref t.c_Barred) = some false
  q_NoThing_Full : PySem.W.kitOne K (.ref t.c_NoThing) (.ref t.c_Full) = some false
  q_NoThing_NoCount : PySem.W.kitOne K (.ref t.c_NoThing) (.ref t.c_NoCount) = some false
  q_NoThing_NoNames : PySem.W.kitOne K (.ref t.c_NoThing) (.ref t.c_NoNames) = some false
  q_NoThing_NoNumbers : PySem.W.kitOne K (.ref t.c_NoThing) (.ref t.c_NoNumbers) = some false
  q_NoThing_NoOrder : PySem.W.kitOne K (.ref t.c_NoThing) (.ref t.c_NoOrder) = some false
  q_NoThing_NoRow : PySem.W.kitOne K (.ref t.c_NoThing) (.ref t.c_NoRow) = some false
  q_NoThing_NoSeveral : PySem.W.kitOne K (.ref t.c_NoThing) (.ref t.c_NoSeveral) = some false
  q_NoThing_NoStep : PySem.W.kitOne K (.ref t.c_NoThing) (.ref t.c_NoStep) = some false
  q_NoThing_NoTelling : PySem.W.kitOne K (.ref t.c_NoThing) (.ref t.c_NoTelling) = some false
  q_NoThing_NoText : PySem.W.kitOne K (.ref t.c_NoThing) (.ref t.c_NoText) = some false
  q_NoThing_Nothing : PySem.W.kitOne K (.ref t.c_NoThing) (.ref t.c_Nothing) = some false
  g_Nothing : mg "Nothing" = some (.ref t.c_Nothing)
  g_OrderError : mg "OrderError" = some (.ref t.c_OrderError)
  c_MOST_THINGS : ∃ tk, mg "MOST_THINGS" = some (.int 8 tk)
structure XF (K : PySem.W.Frag) (mg : Str → Option Value) (c_Barred c_Full c_NoCount c_NoNames c_NoNumbers c_NoOrder c_NoRow c_NoSeveral c_NoStep c_NoTelling c_NoText c_NoThing c_Nothing c_OrderError : Addr) : Prop where
  g_Barred : mg "Barred" = some (.ref c_Barred)
  g_Full : mg "Full" = some (.ref c_Full)
  Z_Full : ExcC K c_Full
  v_Full : PySem.W.kitOne K (.ref c_Full) (.type "ValueError") = some true
  x_Full : PySem.W.exmOne K (.ref c_Full) (.ref c_OrderError) = some true
  q_Full_Barred : PySem.W.kitOne K (.ref c_Full) (.ref c_Barred) = some false
  q_Full_NoCount : PySem.W.kitOne K (.ref c_Full) (.ref c_NoCount) = some false
  q_Full_NoNames : PySem.W.kitOne K (.ref c_Full) (.ref c_NoNames) = some false
  q_Full_NoNumbers : PySem.W.kitOne K (.ref c_Full) (.ref c_NoNumbers) = some false
  q_Full_NoOrder : PySem.W.kitOne K (.ref c_Full) (.ref c_NoOrder) = some false
  q_Full_NoRow : PySem.W.kitOne K (.ref c_Full) (.ref c_NoRow) = some false
  q_Full_NoSeveral : PySem.W.kitOne K (.ref c_Full) (.ref c_NoSeveral) = some false
  q_Full_NoStep : PySem.W.kitOne K (.ref c_Full) (.ref c_NoStep) = some false
  q_Full_NoTelling : PySem.W.kitOne K (.ref c_Full) (.ref c_NoTelling) = some false
  q_Full_NoText : PySem.W.kitOne K (.ref c_Full) (.ref c_NoText) = some false
  q_Full_NoThing : PySem.W.kitOne K (.ref c_Full) (.ref c_NoThing) = some false
  q_Full_Nothing : PySem.W.kitOne K (.ref c_Full) (.ref c_Nothing) = some false
  g_NoCount : mg "NoCount" = some (.ref c_NoCount)
  Z_NoCount : ExcC K c_NoCount
  v_NoCount : PySem.W.kitOne K (.ref c_NoCount) (.type "ValueError") = some true
  x_NoCount : PySem.W.exmOne K (.ref c_NoCount) (.ref c_OrderError) = some true
  q_NoCount_Barred : PySem.W.kitOne K (.ref c_NoCount) (.ref c_Barred) = some false
  q_NoCount_Full : PySem.W.kitOne K (.ref c_NoCount) (.ref c_Full) = some false
  q_NoCount_NoNames : PySem.W.kitOne K (.ref c_NoCount) (.ref c_NoNames) = some false
  q_NoCount_NoNumbers : PySem.W.kitOne K (.ref c_NoCount) (.ref c_NoNumbers) = some false
  q_NoCount_NoOrder : PySem.W.kitOne K (.ref c_NoCount) (.ref c_NoOrder) = some false
  q_NoCount_NoRow : PySem.W.kitOne K (.ref c_NoCount) (.ref c_NoRow) = some false
  q_NoCount_NoSeveral : PySem.W.kitOne K (.ref c_NoCount) (.ref c_NoSeveral) = some false
  q_NoCount_NoStep : PySem.W.kitOne K (.ref c_NoCount) (.ref c_NoStep) = some false
  q_NoCount_NoTelling : PySem.W.kitOne K (.ref c_NoCount) (.ref c_NoTelling) = some false
  q_NoCount_NoText : PySem.W.kitOne K (.ref c_NoCount) (.ref c_NoText) = some false
  q_NoCount_NoThing : PySem.W.kitOne K (.ref c_NoCount) (.ref c_NoThing) = some false
  q_NoCount_Nothing : PySem.W.kitOne K (.ref c_NoCount) (.ref c_Nothing) = some false
  g_NoNames : mg "NoNames" = some (.ref c_NoNames)
  Z_NoNames : ExcC K c_NoNames
  v_NoNames : PySem.W.kitOne K (.ref c_NoNames) (.type "ValueError") = some true
  x_NoNames : PySem.W.exmOne K (.ref c_NoNames) (.ref c_OrderError) = some true
  q_NoNames_Barred : PySem.W.kitOne K (.ref c_NoNames) (.ref c_Barred) = some false
  q_NoNames_Full : PySem.W.kitOne K (.ref c_NoNames) (.ref c_Full) = some false
  q_NoNames_NoCount : PySem.W.kitOne K (.ref c_NoNames) (.ref c_NoCount) = some false
  q_NoNames_NoNumbers : PySem.W.kitOne K (.ref c_NoNames) (.ref c_NoNumbers) = some false
  q_NoNames_NoOrder : PySem.W.kitOne K (.ref c_NoNames) (.ref c_NoOrder) = some false
  q_NoNames_NoRow : PySem.W.kitOne K (.ref c_NoNames) (.ref c_NoRow) = some false
  q_NoNames_NoSeveral : PySem.W.kitOne K (.ref c_NoNames) (.ref c_NoSeveral) = some false
  q_NoNames_NoStep : PySem.W.kitOne K (.ref c_NoNames) (.ref c_NoStep) = some false
  q_NoNames_NoTelling : PySem.W.kitOne K (.ref c_NoNames) (.ref c_NoTelling) = some false
  q_NoNames_NoText : PySem.W.kitOne K (.ref c_NoNames) (.ref c_NoText) = some false
  q_NoNames_NoThing : PySem.W.kitOne K (.ref c_NoNames) (.ref c_NoThing) = some false
  q_NoNames_Nothing : PySem.W.kitOne K (.ref c_NoNames) (.ref c_Nothing) = some false
  g_NoNumbers : mg "NoNumbers" = some (.ref c_NoNumbers)
  g_NoOrder : mg "NoOrder" = some (.ref c_NoOrder)
  Z_NoOrder : ExcC K c_NoOrder
  v_NoOrder : PySem.W.kitOne K (.ref c_NoOrder) (.type "ValueError") = some true
  x_NoOrder : PySem.W.exmOne K (.ref c_NoOrder) (.ref c_OrderError) = some true
  q_NoOrder_Barred : PySem.W.kitOne K (.ref c_NoOrder) (.ref c_Barred) = some false
  q_NoOrder_Full : PySem.W.kitOne K (.ref c_NoOrder) (.ref c_Full) = some false
  q_NoOrder_NoCount : PySem.W.kitOne K (.ref c_NoOrder) (.ref c_NoCount) = some false
  q_NoOrder_NoNames : PySem.W.kitOne K (.ref c_NoOrder) (.ref c_NoNames) = some false
  q_NoOrder_NoNumbers : PySem.W.kitOne K (.ref c_NoOrder) (.ref c_NoNumbers) = some false
  q_NoOrder_NoRow : PySem.W.kitOne K (.ref c_NoOrder) (.ref c_NoRow) = some false
  q_NoOrder_NoSeveral : PySem.W.kitOne K (.ref c_NoOrder) (.ref c_NoSeveral) = some false
  q_NoOrder_NoStep : PySem.W.kitOne K (.ref c_NoOrder) (.ref c_NoStep) = some false
  q_NoOrder_NoTelling : PySem.W.kitOne K (.ref c_NoOrder) (.ref c_NoTelling) = some false
  q_NoOrder_NoText : PySem.W.kitOne K (.ref c_NoOrder) (.ref c_NoText) = some false
  q_NoOrder_NoThing : PySem.W.kitOne K (.ref c_NoOrder) (.ref c_NoThing) = some false
  q_NoOrder_Nothing : PySem.W.kitOne K (.ref c_NoOrder) (.ref c_Nothing) = some false
  g_NoRow : mg "NoRow" = some (.ref c_NoRow)
  g_NoSeveral : mg "NoSeveral" = some (.ref c_NoSeveral)
  g_NoStep : mg "NoStep" = some (.ref c_NoStep)
  g_NoTelling : mg "NoTelling" = some (.ref c_NoTelling)
  g_NoText : mg "NoText" = some (.ref c_NoText)
  g_NoThing : mg "NoThing" = some (.ref c_NoThing)
  Z_NoThing : ExcC K c_NoThing
  v_NoThing : PySem.W.kitOne K (.ref c_NoThing) (.type "ValueError") = some true
  x_NoThing : PySem.W.exmOne K (.ref c_NoThing) (.ref c_OrderError) = some true
  q_NoThing_Barred : PySem.W.kitOne K (.ref c_NoThing) (.ref c_Barred) = some false
  q_NoThing_Full : PySem.W.kitOne K (.ref c_NoThing) (.ref c_Full) = some false
  q_NoThing_NoCount : PySem.W.kitOne K (.ref c_NoThing) (.ref c_NoCount) = some false
  q_NoThing_NoNames : PySem.W.kitOne K (.ref c_NoThing) (.ref c_NoNames) = some false
  q_NoThing_NoNumbers : PySem.W.kitOne K (.ref c_NoThing) (.ref c_NoNumbers) = some false
  q_NoThing_NoOrder : PySem.W.kitOne K (.ref c_NoThing) (.ref c_NoOrder) = some false
  q_NoThing_NoRow : PySem.W.kitOne K (.ref c_NoThing) (.ref c_NoRow) = some false
  q_NoThing_NoSeveral : PySem.W.kitOne K (.ref c_NoThing) (.ref c_NoSeveral) = some false
  q_NoThing_NoStep : PySem.W.kitOne K (.ref c_NoThing) (.ref c_NoStep) = some false
  q_NoThing_NoTelling : PySem.W.kitOne K (.ref c_NoThing) (.ref c_NoTelling) = some false
  q_NoThing_NoText : PySem.W.kitOne K (.ref c_NoThing) (.ref c_NoText) = some false
  q_NoThing_Nothing : PySem.W.kitOne K (.ref c_NoThing) (.ref c_Nothing) = some false
  g_Nothing : mg "Nothing" = some (.ref c_Nothing)
  g_OrderError : mg "OrderError" = some (.ref c_OrderError)

end My

local macro_rules | `(tactic| walk_at "rd") => `(tactic| (repeat (first |  with_reducible refine L2.rd_seq ?_ | with_reducible refine L2.rd_next ?_ | with_reducible refine L2.rd_ifS ?_ | with_reducible refine L2.rd_ret ?_ | with_reducible refine L2.rd_drop ?_ | with_reducible refine L2.rd_asg ?_ | with_reducible refine L2.rd_gname ?_ | ((with_reducible refine' L2.rd_var ?qe1 ?_); (case qe1 => exact rfl)) | with_reducible refine L2.rd_C ?_ | with_reducible refine L2.rd_for ?_ | with_reducible refine L2.rd_lc ?_ | with_reducible refine L2.rd_rng1 ?_ | with_reducible refine L2.rd_itup ?_ | with_reducible refine L2.rd_ilst ?_ | with_reducible refine L2.rd_yes ?_ | with_reducible refine L2.rd_ifE ?_ | with_reducible refine L2.rd_raise ?_ | with_reducible refine L2.rd_while ?_ | with_reducible refine L2.rd_gsub ?_ | with_reducible refine L2.rd_bm ?_ | with_reducible refine L2.rd_gcons ?_ | with_reducible refine L2.rd_gnil ?_ | with_reducible refine L2.rd_test ?_ | with_reducible refine L2.rd_B ?_ | with_reducible refine L2.rd_bl ?_ | with_reducible refine L2.rd_op ?_ | with_reducible refine L2.rd_un ?_ | with_reducible refine L2.rd_I0 ?_ | with_reducible refine L2.rd_and ?_ | with_reducible refine L2.rd_or ?_ | with_reducible refine L2.rd_not ?_ | with_reducible refine L2.rd_andV ?_ | with_reducible refine L2.rd_orV ?_ | with_reducible refine L2.rd_notV ?_ | with_reducible refine L2.rd_blE ?_ | with_reducible refine L2.rd_nil ?_ | with_reducible refine L2.rd_cons ?_ | with_reducible refine L2.rd_tup ?_ | with_reducible refine L2.rd_lst ?_ | with_reducible refine L2.rd_call ?_ | with_reducible refine L2.rd_cb ?_ | with_reducible refine L2.rd_chain ?_ | with_reducible refine L2.rd_eqI ?_ | with_reducible refine L2.rd_neI ?_ | with_reducible refine L2.rd_eqB ?_ | with_reducible refine L2.rd_neB ?_ | with_reducible refine L2.rd_isN ?_ | with_reducible refine L2.rd_notN ?_ | with_reducible refine L2.rd_max2 ?_ | with_reducible refine L2.rd_int1 ?_ | with_reducible refine L2.iteT ?_ | with_reducible refine L2.iteF ?_ | with_reducible refine L2.if_nn ?_ | with_reducible refine L2.if_rn ?_ | with_reducible refine L2.if_in ?_ | with_reducible refine L2.if_nnN ?_ | with_reducible refine L2.if_rnN ?_ | with_reducible refine L2.if_inN ?_ | with_reducible refine L2.ifNT ?_ | with_reducible refine L2.ifNF ?_ | ((with_reducible refine' L2.rd_isBool ?qe1 ?_); (case qe1 => assumption)) | ((with_reducible refine' L2.rd_isInt ?qe1 ?_); (case qe1 => assumption)) | ((with_reducible refine' L2.rd_isTup ?qe1 ?_); (case qe1 => assumption)) | ((with_reducible refine' L2.rd_isLst ?qe1 ?_); (case qe1 => assumption)) | ((with_reducible refine' L2.rd_isStr ?qe1 ?_); (case qe1 => assumption)) | ((with_reducible refine' L2.rd_all ?qe1 ?_); (case qe1 => assumption)) | ((with_reducible refine' L2.rd_any ?qe1 ?_); (case qe1 => assumption)) | ((with_reducible refine' L2.rd_lenT ?qe1 ?_); (case qe1 => assumption)) | ((with_reducible refine' L2.rd_lenL ?qe1 ?_); (case qe1 => assumption)) | ((with_reducible refine' L2.rd_tupL ?qe1 ?_); (case qe1 => assumption)) | ((with_reducible refine' L2.rd_ixT ?qe1 ?qf1 ?_); (case qe1 => assumption); (case qf1 => exact rfl)) | ((with_reducible refine' L2.rd_ixL ?qe1 ?qf1 ?_); (case qe1 => assumption); (case qf1 => exact rfl)) | ((with_reducible refine L2.ifT ?_ ?_); with_reducible rfl) | ((with_reducible refine L2.ifF ?_ ?_); with_reducible rfl) | (dsimp only))))

set_option Elab.async false
set_option linter.all false
set_option maxRecDepth 100000
set_option maxHeartbeats 4000000
namespace My
open PySem L2
section
variable {P : Program} {w : World} {K : PySem.W.Frag} {mg : Str → Option Value} {base : Heap} {t : Ad}
/-! the mirror -/
noncomputable def wholeB (d : PyData) (lo hi : Int) : Bool := match d with | .int i => decide (lo ≤ i) && decide (i ≤ hi) | _ => false
set_option genSizeOf false in
set_option genInjectivity false in
inductive sp_is_whole (vs : List V) (H : Hp) (Q : VK) (zz3 : XK) : Prop where
  | mk (x lo hi d : _) (zh0 : vs = [x, .int lo, .int hi]) (zh1 : Is H x d) (zh2 : Q (.bl (wholeB d lo hi)) H) : sp_is_whole  vs H Q zz3
theorem ok_is_whole (T : Txt K mg t) : FnOk P w K mg base CX0 1 t.a_is_whole t.d_is_whole ["value", "low", "high"] sp_is_whole := by
  refine T.F_is_whole.ok sc_is_whole (fun vs H Q E h => ?_) (fun cdv A outer s H vs Q E hr h => ?_)
  · obtain ⟨x, lo, hi, d, rfl, _⟩ := h
    rfl
  · obtain ⟨x, lo, hi, d, rfl, hx, q⟩ := h
    refine ⟨_, (pss_cons (ps_if (PW.pt (pw_or (pt_val (pe_callB c_isinst (by rfl) T.n_isinstance bt_isinstance (pa_cons (pv 0) (pa_cons (pe_bltn (v := .ty "bool") rfl T.n_bool bt_bool rfl) pa_nil)))) (pw_or1 (pt_not (pt_val (pe_callB c_isinst (by rfl) T.n_isinstance bt_isinstance (pa_cons (pv 0) (pa_cons (pe_bltn (v := .ty "int") rfl T.n_int bt_int rfl) pa_nil)))))))) (pss_one (ps_ret pe_bl)) pss_nil)
      (pss_one (ps_ret (pe_chain op_le op_le (pv 1) (pv 0) (pv 2))))), ?_⟩
    walk_at "rd"
    have hx2 := hx
    cases hx with
    | int i =>
      walk_at "rd"
      refine ifB (fun h => ?_) (fun h => ?_) <;> walk_at "rd" <;> simpa [wholeB, h] using q
    | _ => walk_at "rd" <;> exact q
set_option genSizeOf false in
set_option genInjectivity false in
inductive sp_is_thing (vs : List V) (H : Hp) (Q : VK) (zz3 : XK) : Prop where
  | mk (x m d : _) (zh0 : vs = [x, .int m]) (zh1 : Is H x d) (zh2 : Q (.bl (wholeB d 0 (m - 1))) H) : sp_is_thing  vs H Q zz3
theorem ok_is_thing (T : Txt K mg t) : FnOk P w K mg base CX0 2 t.a_is_thing t.d_is_thing ["value", "many"] sp_is_thing := by
  refine T.F_is_thing.ok sc_is_thing (fun vs H Q E h => ?_) (fun cdv A outer s H vs Q E hr h => ?_)
  · obtain ⟨x, m, d, rfl, _⟩ := h
    rfl
  · obtain ⟨x, m, d, rfl, hx, q⟩ := h
    refine ⟨_, (pss_one (ps_ret (pe_call (ok_is_whole T) (hr.mono (by decide)) rfl T.m_is_whole T.F_is_whole.kp T.b_is_whole .nil pass0 (pa_cons (pv 0) (pa_cons pe_int (pa_cons (pe_op op_sub (pv 1) pe_int) pa_nil)))))), ?_⟩
    walk_at "rd"
    exact ⟨_, _, _, _, rfl, hx, q⟩
/-! pairs, orders -/
noncomputable def prD (p : Int × Int) : PyData := .tuple [.int p.1, .int p.2]
noncomputable def pairB (d : PyData) (m : Int) : Bool := match d with | .tuple [a, b] => wholeB a 0 (m - 1) && wholeB b 0 (m - 1) && !PyData.eqv a b | _ => false
set_option genSizeOf false in
set_option genInjectivity false in
inductive sp_is_pair (vs : List V) (H : Hp) (Q : VK) (zz3 : XK) : Prop where
  | mk (x m d : _) (zh0 : vs = [x, .int m]) (zh1 : Is H x d) (zh2 : Q (.bl (pairB d m)) H) : sp_is_pair  vs H Q zz3
theorem pair_other {d : PyData} {m : Int} (h : ∀ a b, d ≠ .tuple [a, b]) : pairB d m = false := by
  unfold pairB
  split
  · rename_i a b
    exact absurd rfl (h a b)
  · rfl
theorem isTup_no {d : PyData} (h : ∀ ds, d ≠ .tuple ds) : isTupD d = false := by
  cases d <;> first | rfl | exact absurd rfl (h _)
theorem wholeB_int {d : PyData} {lo hi : Int} (h : wholeB d lo hi = true) : ∃ i : Int, d = .int i ∧ lo ≤ i ∧ i ≤ hi := by
  unfold wholeB at h
  split at h
  · rename_i i
    simp at h
    exact ⟨i, rfl, h.1, h.2⟩
  · cases h
theorem ok_is_pair (T : Txt K mg t) : FnOk P w K mg base CX0 3 t.a_is_pair t.d_is_pair ["value", "many"] sp_is_pair := by
  refine T.F_is_pair.ok sc_is_pair (fun vs H Q E h => ?_) (fun cdv A outer s H vs Q E hr h => ?_)
  · obtain ⟨x, m, d, rfl, _⟩ := h
    rfl
  · obtain ⟨x, m, d, rfl, hx, q⟩ := h
    refine ⟨_, (pss_cons (ps_if (PW.pt (pw_or (pt_not (pt_val (pe_callB c_isinst (by rfl) T.n_isinstance bt_isinstance (pa_cons (pv 0) (pa_cons (pe_bltn (v := .ty "tuple") rfl T.n_tuple bt_tuple rfl) pa_nil))))) (pw_or1 (pt_cmpR (op_neD hr.units) (pe_callB (k_len K) (by rfl) T.n_len bt_len (pa_cons (pv 0) pa_nil)) pe_int (nomark _))))) (pss_one (ps_ret pe_bl)) pss_nil)
      (pss_cons (ps_if (PW.pt (pw_or (pt_not (pt_val (pe_call (ok_is_thing T) (hr.mono (by decide)) rfl T.m_is_thing T.F_is_thing.kp T.b_is_thing .nil pass0 (pa_cons (pe_ix (k_ix K) (pv 0) pe_int (fun _ _ => rfl)) (pa_cons (pv 1) pa_nil))))) (pw_or1 (pt_not (pt_val (pe_call (ok_is_thing T) (hr.mono (by decide)) rfl T.m_is_thing T.F_is_thing.kp T.b_is_thing .nil pass0 (pa_cons (pe_ix (k_ix K) (pv 0) pe_int (fun _ _ => rfl)) (pa_cons (pv 1) pa_nil)))))))) (pss_one (ps_ret pe_bl)) pss_nil)
      (pss_one (ps_ret (pe_cmpR (op_neD hr.units) (pe_ix (k_ix K) (pv 0) pe_int (fun _ _ => rfl)) (pe_ix (k_ix K) (pv 0) pe_int (fun _ _ => rfl)) (nomark _)))))), ?_⟩
    walk_at "rd"
    by_cases hd : ∃ ds, d = .tuple ds
    · obtain ⟨ds, rfl⟩ := hd
      cases hx with
      | @tup a xs _ e hxs =>
      walk_at "rd"
      have hl := hxs.length
      refine ifB (fun h => ?_) (fun h => ?_)
      · walk_at "rd"
        rw [pair_other] at q
        · exact q
        · rintro a b ⟨⟩
          simp at hl
          simp [hl] at h
      · walk_at "rd"
        match xs, ds, hxs, hl with
        | [x1, x2], [d1, d2], .cons i1 (.cons i2 .nil), _ =>
          walk_at "rd"
          refine ⟨_, _, _, rfl, i1, ?_⟩
          walk_at "rd"
          have qe : pairB (.tuple [d1, d2]) m = (wholeB d1 0 (m - 1) && wholeB d2 0 (m - 1) && !PyData.eqv d1 d2) := rfl
          rw [qe] at q
          refine ifB (fun h1 => ?_) (fun h1 => ?_)
          · walk_at "rd"
            have h1' : wholeB d1 0 (m - 1) = false := by simpa using h1
            simpa [h1'] using q
          · walk_at "rd"
            refine ⟨_, _, _, rfl, i2, ?_⟩
            walk_at "rd"
            have h1' : wholeB d1 0 (m - 1) = true := by simpa using h1
            refine ifB (fun h2 => ?_) (fun h2 => ?_)
            · walk_at "rd"
              have h2' : wholeB d2 0 (m - 1) = false := by simpa using h2
              simpa [h2'] using q
            · walk_at "rd"
              have h2' : wholeB d2 0 (m - 1) = true := by simpa using h2
              obtain ⟨i, rfl, _⟩ := wholeB_int h1'
              obtain ⟨j, rfl, _⟩ := wholeB_int h2'
              refine rd_eqD i1 i2 ⟨rfl, Nat.zero_le _⟩ ⟨rfl, Nat.zero_le _⟩ ?_
              simpa [h1', h2'] using q
        | [], _, _, _ => simp at h
        | [_], _, _, _ => simp at h
        | _ :: _ :: _ :: _, _, _, _ => simp at h; omega
    · have hd' : ∀ ds, d ≠ .tuple ds := fun ds e => hd ⟨ds, e⟩
      rw [isTup_no hd']
      walk_at "rd"
      rw [pair_other fun a b => hd' _] at q
      exact q
noncomputable def risingB : List (Int × Int) → Bool
  | a :: b :: r => HT.lexLt [a.1, a.2] [b.1, b.2] && risingB (b :: r)
  | _ => true
theorem rising_range : ∀ ps : List (Int × Int), risingB ps = ((List.range (ps.length - 1)).map fun i => HT.lexLt [(ps.getD i (0, 0)).1, (ps.getD i (0, 0)).2] [(ps.getD (i + 1) (0, 0)).1, (ps.getD (i + 1) (0, 0)).2]).all id
  | [] => rfl
  | [a] => rfl
  | a :: b :: r => by
    rw [risingB, rising_range (b :: r)]
    have e : (a :: b :: r).length - 1 = ((b :: r).length - 1) + 1 := by simp
    rw [e, List.range_succ_eq_map, List.map_cons, List.all_cons, List.map_map]
    rfl
theorem _root_.L2.atI_of {α : Type} {xs : List α} {i : Nat} {k : Int} {v : α} (hk : k = (i : Int)) (h : xs[i]? = some v) : atI xs k = some v := by
  subst hk
  exact atI_nat h
theorem two_ints {H : Hp} {xs : List V} {a b : Int} (h : IsAll H xs [.int a, .int b]) : xs = [.int a, .int b] := by
  cases h with
  | cons h1 t =>
    cases t with
    | cons h2 t2 =>
      cases h1
      cases h2
      cases t2
      rfl
theorem two_io {H : Hp} {xs : List V} {a : Int} {ds : List PyData} (h : IsAll H xs [.int a, .tuple ds]) : ∃ b ys, xs = [.int a, .ref b] ∧ H b = some (.tup ys) ∧ IsAll H ys ds := by
  cases h with
  | cons h1 t =>
    cases t with
    | cons h2 t2 =>
      cases h1
      cases t2
      cases h2 with
      | tup eb hb => exact ⟨_, _, rfl, eb, hb⟩
theorem pr_at {H : Hp} {xs : List V} {ps : List (Int × Int)} {i : Nat} (h : IsAll H xs (ps.map prD)) (hi : i < ps.length) :
    ∃ r, xs[i]? = some (.ref r) ∧ H r = some (.tup [.int (ps.getD i (0, 0)).1, .int (ps.getD i (0, 0)).2]) := by
  obtain ⟨v, e, iv⟩ := h.get (i := i) (d := prD (ps.getD i (0, 0))) (by rw [List.getElem?_map]; simp [hi])
  unfold prD at iv
  cases iv with
  | @tup a xs _ ea hxs =>
    obtain rfl := two_ints hxs
    exact ⟨a, e, ea⟩
theorem small_ln {n : Nat} (h : n ≤ 1000) : n ≤ sizeLine := Nat.le_of_lt (small1000 h)
set_option genSizeOf false in
set_option genInjectivity false in
inductive sp_is_rising (vs : List V) (H : Hp) (Q : VK) (zz3 : XK) : Prop where
  | mk (x ps : _) (zh0 : vs = [x]) (zh1 : Is H x (.tuple (ps.map prD))) (zh2 : ps.length ≤ 1000) (zh3 : ∀ H', Same H H' → Q (.bl (risingB ps)) H') : sp_is_rising  vs H Q zz3
theorem ok_is_rising (T : Txt K mg t) : FnOk P w K mg base CX0 1 t.a_is_rising t.d_is_rising ["pairs"] sp_is_rising := by
  refine T.F_is_rising.ok sc_is_rising (fun vs H Q E h => ?_) (fun cdv A outer s H vs Q E hr h => ?_)
  · obtain ⟨x, ps, rfl, _⟩ := h
    rfl
  · obtain ⟨x, ps, rfl, hx, hsz, q⟩ := h
    refine ⟨_, (pss_one (ps_ret (pe_callB (k_all K) (by rfl) T.n_all bt_all (pa_cons (pe_lc rfl ⟨True.intro, True.intro, (.inl rfl), True.intro⟩ (M := ["place", "pairs"]) (.own (.free 0 rfl rfl .nil)) (gk_name rfl) rfl (by decide +kernel) (pi_range1 rfl T.n_range (pa_cons (pe_op op_sub (pe_callB (k_len K) (by rfl) T.n_len bt_len (pa_cons (pv 0) pa_nil)) pe_int) pa_nil)) (fun C fp s1 H1 => ⟨pg_name (i := 0) (show (["place", "pairs"] : List Str).Nodup by decide +kernel) rfl (Or.inl rfl), pif_nil, (pe_cmpR (k_ltT K hr.units0) (pe_ix (k_ix K) (pv 1) (pv 0) (fun _ _ => rfl)) (pe_ix (k_ix K) (pv 1) (pe_op op_add (pv 0) pe_int) (fun _ _ => rfl)) (nomark _))⟩)) pa_nil)))), ?_⟩
    cases hx with
    | @tup a xs _ e hxs =>
    have hl : xs.length = ps.length := by rw [hxs.length, List.length_map]
    walk_at "rd"
    refine ⟨_, rfl, by omega, by omega, ?_⟩
    have en : ((xs.length : Int) - 1).toNat = ps.length - 1 := by omega
    rw [en]
    refine lp_range (small_ln (by omega)) (fun i ys H' => H' = H ∧ ys = ((List.range i).map fun i => HT.lexLt [(ps.getD i (0, 0)).1, (ps.getD i (0, 0)).2] [(ps.getD (i + 1) (0, 0)).1, (ps.getD (i + 1) (0, 0)).2]).map V.bl) ⟨rfl, rfl⟩ (by rintro i ys H' ⟨_, rfl⟩; simp) ?_ ?_
    · rintro i ys H' hi ⟨rfl, rfl⟩
      obtain ⟨r1, e1, h1⟩ := pr_at hxs (i := i) (by omega)
      obtain ⟨r2, e2, h2⟩ := pr_at hxs (i := i + 1) (by omega)
      walk_at "rd"
      refine rd_ixT e (atI_of (i := i) (by omega) e1) ?_
      walk_at "rd"
      refine rd_ixT e (atI_of (i := i + 1) (by omega) e2) ?_
      refine rd_ltT h1 h2 ⟨rfl, ?_⟩
      rw [List.range_succ, List.map_append, List.map_append]
      rfl
    · rintro ys H' ⟨rfl, rfl⟩ p hp
      walk_at "rd"
      refine rd_all upd_same ?_
      rw [← rising_range]
      exact q _ (Same.upd hp)
noncomputable def decP (d : PyData) : Int × Int := match d with | .tuple [.int a, .int b] => (a, b) | _ => (0, 0)
noncomputable def orderB (d : PyData) : Bool := match d with | .tuple [.int n, .tuple ds] => decide (1 ≤ n) && decide (n ≤ 8) && ds.all (fun d => pairB d n) && risingB (ds.map decP) | _ => false
theorem pairB_dec {d : PyData} {m : Int} (h : pairB d m = true) : d = prD (decP d) := by
  unfold pairB at h
  split at h
  · rename_i a b
    rw [Bool.and_eq_true, Bool.and_eq_true] at h
    obtain ⟨i, rfl, _⟩ := wholeB_int h.1.1
    obtain ⟨j, rfl, _⟩ := wholeB_int h.1.2
    rfl
  · cases h
theorem pairs_dec {m : Int} : ∀ {ds : List PyData}, ds.all (fun d => pairB d m) = true → ds = (ds.map decP).map prD
  | [], _ => rfl
  | d :: ds, h => by
    rw [List.all_cons, Bool.and_eq_true] at h
    rw [List.map_cons, List.map_cons, ← pairs_dec h.2, ← pairB_dec h.1]
theorem order_other {d : PyData} (h : ∀ n ds, d ≠ .tuple [.int n, .tuple ds]) : orderB d = false := by
  unfold orderB
  split
  · rename_i n ds
    exact absurd rfl (h n ds)
  · rfl
noncomputable def okOrd (d : PyData) : Prop := ∀ m ds, d = .tuple [m, .tuple ds] → ds.length ≤ 1000
set_option genSizeOf false in
set_option genInjectivity false in
inductive sp_is_order (vs : List V) (H : Hp) (Q : VK) (zz3 : XK) : Prop where
  | mk (x d : _) (zh0 : vs = [x]) (zh1 : Is H x d) (zh2 : okOrd d) (zh3 : ∀ H', Same H H' → Q (.bl (orderB d)) H') : sp_is_order  vs H Q zz3
theorem ok_is_order (T : Txt K mg t) : FnOk P w K mg base CX0 4 t.a_is_order t.d_is_order ["value"] sp_is_order := by
  refine T.F_is_order.ok sc_is_order (fun vs H Q E h => ?_) (fun cdv A outer s H vs Q E hr h => ?_)
  · obtain ⟨x, d, rfl, _⟩ := h
    rfl
  · obtain ⟨x, d, rfl, hx, hok, q⟩ := h
    refine ⟨_, (pss_cons (ps_if (PW.pt (pw_or (pt_not (pt_val (pe_callB c_isinst (by rfl) T.n_isinstance bt_isinstance (pa_cons (pv 0) (pa_cons (pe_bltn (v := .ty "tuple") rfl T.n_tuple bt_tuple rfl) pa_nil))))) (pw_or1 (pt_cmpR (op_neD hr.units) (pe_callB (k_len K) (by rfl) T.n_len bt_len (pa_cons (pv 0) pa_nil)) pe_int (nomark _))))) (pss_one (ps_ret pe_bl)) pss_nil)
      (pss_cons (ps_set (i := 1) sc_is_order.nd rfl (Or.inr rfl) (pe_ix (k_ix K) (pv 0) pe_int (fun _ _ => rfl)))
      (pss_cons (ps_set (i := 2) sc_is_order.nd rfl (Or.inl rfl) (pe_ix (k_ix K) (pv 0) pe_int (fun _ _ => rfl)))
      (pss_cons (ps_if (PW.pt (pw_or (pt_not (pt_val (pe_call (ok_is_whole T) (hr.mono (by decide)) rfl T.m_is_whole T.F_is_whole.kp T.b_is_whole .nil pass0 (pa_cons (pv 1) (pa_cons pe_int (pa_cons (pe_gint rfl T.c_MOST_THINGS) pa_nil)))))) (pw_or1 (pt_not (pt_val (pe_callB c_isinst (by rfl) T.n_isinstance bt_isinstance (pa_cons (pv 2) (pa_cons (pe_bltn (v := .ty "tuple") rfl T.n_tuple bt_tuple rfl) pa_nil)))))))) (pss_one (ps_ret pe_bl)) pss_nil)
      (pss_one (ps_ret (pe_and (pe_callB (k_all K) (by rfl) T.n_all bt_all (pa_cons (pe_lc rfl ⟨True.intro, True.intro, True.intro, (.inl rfl), True.intro⟩ (M := ["pair", "many"]) (.own (.free 1 rfl rfl .nil)) (gk_name rfl) rfl (by decide +kernel) (k_ptup K (pv 2)) (fun C fp s1 H1 => ⟨pg_name (i := 0) (show (["pair", "many"] : List Str).Nodup by decide +kernel) rfl (Or.inl rfl), pif_nil, (pe_call (ok_is_pair T) (hr.mono (by decide)) rfl T.m_is_pair T.F_is_pair.kp T.b_is_pair .nil pass0 (pa_cons (pv 0) (pa_cons (pv 1) pa_nil)))⟩)) pa_nil)) (pe_one (pe_call (ok_is_rising T) (hr.mono (by decide)) rfl T.m_is_rising T.F_is_rising.kp T.b_is_rising .nil pass0 (pa_cons (pv 2) pa_nil)))))))))), ?_⟩
    walk_at "rd"
    by_cases hd : ∃ ds, d = .tuple ds
    · obtain ⟨ds, rfl⟩ := hd
      cases hx with
      | @tup a xs _ e hxs =>
      walk_at "rd"
      have hl := hxs.length
      refine ifB (fun h => ?_) (fun h => ?_)
      · walk_at "rd"
        have q' := q H (Same.refl H)
        rw [order_other] at q'
        · exact q'
        · rintro n ds ⟨⟩
          simp at hl
          simp [hl] at h
      · walk_at "rd"
        match xs, ds, hxs, hl with
        | [x1, x2], [d1, d2], .cons i1 (.cons i2 .nil), _ =>
          walk_at "rd"
          refine ⟨_, _, _, _, rfl, i1, ?_⟩
          walk_at "rd"
          refine ifB (fun h1 => ?_) (fun h1 => ?_)
          · walk_at "rd"
            have h1' : wholeB d1 1 8 = false := by simpa using h1
            have q' := q H (Same.refl H)
            by_cases h0 : ∃ n ds, d1 = .int n ∧ d2 = .tuple ds
            · obtain ⟨n, ds, rfl, rfl⟩ := h0
              have : orderB (.tuple [.int n, .tuple ds]) = (decide (1 ≤ n) && decide (n ≤ 8) && ds.all (fun d => pairB d n) && risingB (ds.map decP)) := rfl
              rw [this, show (decide (1 ≤ n) && decide (n ≤ 8)) = false from h1'] at q'
              exact q'
            · rw [order_other (by rintro n ds ⟨⟩; exact h0 ⟨_, _, rfl, rfl⟩)] at q'
              exact q'
          · have h1' : wholeB d1 1 8 = true := by simpa using h1
            obtain ⟨n, rfl, hn1, hn8⟩ := wholeB_int h1'
            walk_at "rd"
            by_cases hd2 : ∃ ds, d2 = .tuple ds
            · obtain ⟨ds, rfl⟩ := hd2
              have hlen := hok _ _ rfl
              cases i1 with
              | int _ =>
              cases i2 with
              | @tup b ys _ eb hys =>
              have hlb := hys.length
              walk_at "rd"
              refine ⟨b, rfl, ⟨ys, SqT.of eb⟩, ?_⟩
              refine lp_tup (K := K) (xs := ys) (small_ln (by omega)) (fun i zs H' => H' = H ∧ zs = ((ds.take i).map fun d => pairB d n).map V.bl) ⟨rfl, rfl⟩ (by rintro i ys H' ⟨_, rfl⟩; simp; omega) (fun i zs H' _ h => by rw [h.1]; exact SqT.of eb) ?_ ?_
              · rintro i x zs H' hx ⟨rfl, rfl⟩
                obtain ⟨d, ed, id⟩ := hys.get' hx
                walk_at "rd"
                refine ⟨_, _, _, rfl, id, rfl, ?_⟩
                rw [List.take_add_one, ed, List.map_append, List.map_append]
                rfl
              · rintro zs H' ⟨rfl, rfl⟩ p hp
                walk_at "rd"
                refine rd_all upd_same ?_
                rw [hlb, List.take_length, List.all_map]
                walk_at "rd"
                have qe : orderB (.tuple [.int n, .tuple ds]) = (decide (1 ≤ n) && decide (n ≤ 8) && ds.all (fun d => pairB d n) && risingB (ds.map decP)) := rfl
                rw [qe, decide_eq_true hn1, decide_eq_true hn8] at q
                refine ifB (fun h3 => ?_) (fun h3 => ?_)
                · walk_at "rd"
                  have h3' : ds.all (fun d => pairB d n) = true := h3
                  have ed := pairs_dec h3'
                  have hy2 : Is (upd H' p (.lst (((ds.take ys.length).map fun d => pairB d n).map V.bl))) (.ref b) (.tuple ((ds.map decP).map prD)) := by
                    rw [← ed]
                    exact Is.same (Same.upd hp) (.tup eb hys)
                  rw [hlb, List.take_length] at hy2
                  refine ⟨_, _, rfl, hy2, by rw [List.length_map]; exact hlen, fun H2 s2 => ?_⟩
                  have q' := q H2 ((Same.upd hp).trans s2)
                  simpa [h3'] using q'
                · walk_at "rd"
                  have h3' : ds.all (fun d => pairB d n) = false := h3
                  have q' := q _ (Same.upd (o := .lst ((ds.map fun d => pairB d n).map V.bl)) hp)
                  simpa [h3'] using q'
            · have hd2' : ∀ ds, d2 ≠ .tuple ds := fun ds e => hd2 ⟨ds, e⟩
              rw [isTup_no hd2']
              walk_at "rd"
              have q' := q H (Same.refl H)
              rw [order_other (by rintro n ds ⟨⟩; exact hd2' _ rfl)] at q'
              exact q'
        | [], _, _, _ => simp at h
        | [_], _, _, _ => simp at h
        | _ :: _ :: _ :: _, _, _, _ => simp at h; omega
    · have hd' : ∀ ds, d ≠ .tuple ds := fun ds e => hd ⟨ds, e⟩
      rw [isTup_no hd']
      walk_at "rd"
      have q' := q H (Same.refl H)
      rw [order_other fun n ds => hd' _] at q'
      exact q'
end
end My

set_option Elab.async false
set_option linter.all false
set_option maxRecDepth 100000
set_option maxHeartbeats 4000000
namespace My
open PySem L2
section
variable {P : Program} {w : World} {K : PySem.W.Frag} {mg : Str → Option Value} {base : Heap} {t : Ad}
/-! bars -/
theorem eqv_pr (p q : Int × Int) : PyData.eqv (prD p) (prD q) = decide (p = q) := by
  obtain ⟨a, b⟩ := p
  obtain ⟨c, d⟩ := q
  simp only [prD, PyData.eqv, PyData.eqvAll, Bool.and_true]
  by_cases h : a = c
  · by_cases h2 : b = d
    · subst h h2; simp
    · simp [h, h2]
  · simp [h]
theorem ok_pr (p : Int × Int) : okD (prD p) := ⟨rfl, show 1 ≤ 40 by decide⟩
theorem ok_prs : ∀ ps : List (Int × Int), okDs (ps.map prD)
  | [] => ⟨rfl, Nat.zero_le _⟩
  | p :: ps => by
    obtain ⟨a, b⟩ := ok_prs ps
    refine ⟨?_, ?_⟩
    · rw [List.map_cons, PyData.canLayAll0, a]; rfl
    · rw [List.map_cons, PyData.depthAll]
      exact Nat.max_le.mpr ⟨(ok_pr p).2, b⟩
noncomputable def has (ps : List (Int × Int)) (i j : Int) : Bool := decide ((i, j) ∈ ps)
theorem two_ln {i j : Int} : [V.int i, V.int j].length ≤ sizeLine := by
  show 2 ≤ sizeLine
  decide
/-! an order -/
noncomputable def ordD (n : Nat) (ps : List (Int × Int)) : PyData := .tuple [.int n, .tuple (ps.map prD)]
structure Ord (n : Nat) (ps : List (Int × Int)) : Prop where
  lo : 1 ≤ n
  hi : n ≤ 8
  ix : ∀ p ∈ ps, 0 ≤ p.1 ∧ p.1 < n ∧ 0 ≤ p.2 ∧ p.2 < n ∧ p.1 ≠ p.2
  up : risingB ps = true
  sz : ps.length ≤ 1000
theorem decP_pr (p : Int × Int) : decP (prD p) = p := rfl
theorem Ord.okd {n : Nat} {ps : List (Int × Int)} (h : Ord n ps) : okOrd (ordD n ps) := by
  rintro m ds e
  unfold ordD at e
  injection e with e
  injection e with _ e
  injection e with e _
  injection e with e
  rw [← e, List.length_map]
  exact h.sz
theorem Ord.yes {n : Nat} {ps : List (Int × Int)} (h : Ord n ps) : orderB (ordD n ps) = true := by
  have e : orderB (ordD n ps) = (decide (1 ≤ (n : Int)) && decide ((n : Int) ≤ 8) && (ps.map prD).all (fun d => pairB d n) && risingB ((ps.map prD).map decP)) := rfl
  have e2 : (ps.map prD).map decP = ps := by
    rw [List.map_map]
    exact (List.map_congr_left fun p _ => decP_pr p).trans (List.map_id ps)
  have e3 : (ps.map prD).all (fun d => pairB d n) = true := by
    rw [List.all_map, List.all_eq_true]
    intro p hp
    obtain ⟨a, b, c, d, f⟩ := h.ix p hp
    show (wholeB (.int p.1) 0 (n - 1) && wholeB (.int p.2) 0 (n - 1) && !PyData.eqv (.int p.1) (.int p.2)) = true
    have g1 : wholeB (.int p.1) 0 (n - 1) = true := by
      show (decide (0 ≤ p.1) && decide (p.1 ≤ (n : Int) - 1)) = true
      simp; omega
    have g2 : wholeB (.int p.2) 0 (n - 1) = true := by
      show (decide (0 ≤ p.2) && decide (p.2 ≤ (n : Int) - 1)) = true
      simp; omega
    have g3 : PyData.eqv (.int p.1) (.int p.2) = false := by
      show (p.1 == p.2) = false
      simpa using f
    rw [g1, g2, g3]; rfl
  rw [e, e2, e3, h.up, decide_eq_true (by have := h.lo; omega), decide_eq_true (by have := h.hi; omega)]
  rfl
theorem is_ord {H : Hp} {x : V} {n : Nat} {ps : List (Int × Int)} (h : Is H x (ordD n ps)) : ∃ a b xs, x = .ref a ∧ H a = some (.tup [.int n, .ref b]) ∧ H b = some (.tup xs) ∧ IsAll H xs (ps.map prD) := by
  unfold ordD at h
  cases h with
  | @tup a xs _ e hxs =>
    obtain ⟨b, ys, rfl, eb, hb⟩ := two_io hxs
    exact ⟨a, _, _, rfl, e, eb, hb⟩
end
end My

set_option Elab.async false
set_option linter.all false
set_option maxRecDepth 100000
set_option maxHeartbeats 4000000
namespace My
open PySem L2
section
variable {P : Program} {w : World} {K : PySem.W.Frag} {mg : Str → Option Value} {base : Heap} {t : Ad}
noncomputable def tlI (st : Int) (vals : List Int) (i j : Nat) : List (Int × Int) := if vals.getD j 0 - vals.getD i 0 ≥ st then [((i : Int), (j : Int))] else []
noncomputable def tlRow (st : Int) (vals : List Int) (i m : Nat) : List (Int × Int) := (List.range m).flatMap (tlI st vals i)
noncomputable def tlAll (st : Int) (vals : List Int) (m : Nat) : List (Int × Int) := (List.range m).flatMap fun i => tlRow st vals i vals.length
noncomputable def toldL (st : Int) (vals : List Int) : List (Int × Int) := tlAll st vals vals.length
theorem tlRow_succ (st : Int) (vals : List Int) (i m : Nat) : tlRow st vals i (m + 1) = tlRow st vals i m ++ tlI st vals i m := by
  unfold tlRow
  rw [List.range_succ, List.flatMap_append]
  simp
theorem tlAll_succ (st : Int) (vals : List Int) (m : Nat) : tlAll st vals (m + 1) = tlAll st vals m ++ tlRow st vals m vals.length := by
  unfold tlAll
  rw [List.range_succ, List.flatMap_append]
  simp
theorem tlI_len (st : Int) (vals : List Int) (i j : Nat) : (tlI st vals i j).length ≤ 1 := by
  unfold tlI
  split
  · exact Nat.le_refl _
  · exact Nat.zero_le _
theorem tlRow_len (st : Int) (vals : List Int) (i : Nat) : ∀ m, (tlRow st vals i m).length ≤ m
  | 0 => Nat.le_refl _
  | m + 1 => by
    rw [tlRow_succ, List.length_append]
    have := tlRow_len st vals i m
    have := tlI_len st vals i m
    omega
theorem tlAll_len (st : Int) (vals : List Int) : ∀ m, (tlAll st vals m).length ≤ m * vals.length
  | 0 => Nat.zero_le _
  | m + 1 => by
    rw [tlAll_succ, List.length_append, Nat.succ_mul]
    have := tlAll_len st vals m
    have := tlRow_len st vals m vals.length
    omega
theorem noLs_pr : ∀ ds : List (Int × Int), noLs (ds.map prD) = true
  | [] => rfl
  | d :: ds => by
    rw [List.map_cons, noLs, noLs_pr ds]
    rfl
theorem ok_prT (ps : List (Int × Int)) : okD (.tuple (ps.map prD)) := by
  have h := ok_prs ps
  refine ⟨?_, ?_⟩
  · rw [PyData.canLay0]; exact h.1
  · rw [PyData.depth]
    have : PyData.depthAll (ps.map prD) ≤ 1 := by
      clear h
      induction ps with
      | nil => exact Nat.zero_le _
      | cons p ps ih =>
        rw [List.map_cons, PyData.depthAll]
        exact Nat.max_le.mpr ⟨Nat.le_refl _, ih⟩
    omega
noncomputable abbrev ltP (p q : Int × Int) : Prop := HT.lexLt [p.1, p.2] [q.1, q.2] = true
theorem ltP_of {p q : Int × Int} (h : p.1 < q.1 ∨ (p.1 = q.1 ∧ p.2 < q.2)) : ltP p q := by
  show HT.lexLt [p.1, p.2] [q.1, q.2] = true
  rw [HT.lexLt_cons]
  rcases h with h | ⟨h1, h2⟩
  · rw [if_neg (by omega)]
    exact decide_eq_true h
  · rw [if_pos h1, HT.lexLt_cons, if_neg (by omega)]
    exact decide_eq_true h2
theorem mem_tlI {st : Int} {vals : List Int} {i j : Nat} {p : Int × Int} : p ∈ tlI st vals i j ↔ p = ((i : Int), (j : Int)) ∧ vals.getD j 0 - vals.getD i 0 ≥ st := by
  unfold tlI
  split
  · rename_i h
    rw [List.mem_singleton]
    exact ⟨fun e => ⟨e, h⟩, fun e => e.1⟩
  · rename_i h
    constructor
    · intro e; cases e
    · intro e; exact absurd e.2 h
theorem mem_tlRow {st : Int} {vals : List Int} {i m : Nat} {p : Int × Int} : p ∈ tlRow st vals i m ↔ ∃ j, j < m ∧ p = ((i : Int), (j : Int)) ∧ vals.getD j 0 - vals.getD i 0 ≥ st := by
  unfold tlRow
  rw [List.mem_flatMap]
  constructor
  · rintro ⟨j, hj, h⟩
    exact ⟨j, List.mem_range.mp hj, mem_tlI.mp h⟩
  · rintro ⟨j, hj, h⟩
    exact ⟨j, List.mem_range.mpr hj, mem_tlI.mpr h⟩
theorem mem_tlAll {st : Int} {vals : List Int} {m : Nat} {p : Int × Int} : p ∈ tlAll st vals m ↔ ∃ i j, i < m ∧ j < vals.length ∧ p = ((i : Int), (j : Int)) ∧ vals.getD j 0 - vals.getD i 0 ≥ st := by
  unfold tlAll
  rw [List.mem_flatMap]
  constructor
  · rintro ⟨i, hi, h⟩
    obtain ⟨j, hj, e, g⟩ := mem_tlRow.mp h
    exact ⟨i, j, List.mem_range.mp hi, hj, e, g⟩
  · rintro ⟨i, j, hi, hj, e, g⟩
    exact ⟨i, List.mem_range.mpr hi, mem_tlRow.mpr ⟨j, hj, e, g⟩⟩
theorem row_up (st : Int) (vals : List Int) (i : Nat) : ∀ m, (tlRow st vals i m).Pairwise ltP
  | 0 => .nil
  | m + 1 => by
    rw [tlRow_succ, List.pairwise_append]
    refine ⟨row_up st vals i m, ?_, fun p hp q hq => ?_⟩
    · unfold tlI
      split
      · exact List.pairwise_singleton _ _
      · exact .nil
    · obtain ⟨j, hj, rfl, _⟩ := mem_tlRow.mp hp
      obtain ⟨rfl, _⟩ := mem_tlI.mp hq
      exact ltP_of (.inr ⟨rfl, by show (j : Int) < m; omega⟩)
theorem all_up (st : Int) (vals : List Int) : ∀ m, (tlAll st vals m).Pairwise ltP
  | 0 => .nil
  | m + 1 => by
    rw [tlAll_succ, List.pairwise_append]
    refine ⟨all_up st vals m, row_up st vals m _, fun p hp q hq => ?_⟩
    obtain ⟨i, j, hi, hj, rfl, _⟩ := mem_tlAll.mp hp
    obtain ⟨j', _, rfl, _⟩ := mem_tlRow.mp hq
    exact ltP_of (.inl (by show (i : Int) < m; omega))
theorem rising_of : ∀ {ps : List (Int × Int)}, ps.Pairwise ltP → risingB ps = true
  | [], _ => rfl
  | [_], _ => rfl
  | a :: b :: r, h => by
    rw [risingB, rising_of (List.pairwise_cons.mp h).2, (List.pairwise_cons.mp h).1 b List.mem_cons_self]
    rfl
theorem row_len {st : Int} (hs : 1 ≤ st) {vals : List Int} {i : Nat} : ∀ m, i < m → (tlRow st vals i m).length + 1 ≤ m
  | 0, h => by omega
  | m + 1, h => by
    rw [tlRow_succ, List.length_append]
    by_cases e : i = m
    · subst e
      have : tlI st vals i i = [] := by
        unfold tlI
        rw [if_neg (by omega)]
      rw [this]
      have := tlRow_len st vals i i
      simp only [List.length_nil]
      omega
    · have a := row_len (i := i) hs (vals := vals) m (by omega)
      have b := tlI_len st vals i m
      omega
theorem all_len {st : Int} (hs : 1 ≤ st) {vals : List Int} : ∀ m, m ≤ vals.length → (tlAll st vals m).length + m ≤ m * vals.length
  | 0, _ => by simp [tlAll]
  | m + 1, h => by
    rw [tlAll_succ, List.length_append, Nat.succ_mul]
    have a := all_len hs (vals := vals) m (by omega)
    have b := row_len hs (vals := vals) (i := m) vals.length (by omega)
    omega
theorem told_len {st : Int} (hs : 1 ≤ st) {vals : List Int} (h1 : 1 ≤ vals.length) (h8 : vals.length ≤ 8) : (toldL st vals).length < 64 := by
  have a := all_len hs (vals := vals) vals.length (Nat.le_refl _)
  have b : vals.length * vals.length ≤ 8 * 8 := Nat.mul_le_mul h8 h8
  unfold toldL
  omega
theorem told_ord {st : Int} (hs : 1 ≤ st) {vals : List Int} (h1 : 1 ≤ vals.length) (h8 : vals.length ≤ 8) : Ord vals.length (toldL st vals) where
  lo := h1
  hi := h8
  ix := fun p hp => by
    obtain ⟨i, j, hi, hj, rfl, g⟩ := mem_tlAll.mp hp
    refine ⟨by show (0 : Int) ≤ i; omega, by show (i : Int) < vals.length; omega, by show (0 : Int) ≤ j; omega, by show (j : Int) < vals.length; omega, ?_⟩
    intro e
    have e' : (i : Int) = j := e
    have : i = j := by omega
    subst this
    omega
  up := rising_of (all_up st vals _)
  sz := by
    have := told_len hs h1 h8
    omega
/-- two orders of one list are one -/
theorem sorted_one {α : Type} {lt : α → α → Prop} (as : ∀ a b, lt a b → ¬ lt b a) : ∀ {l1 l2 : List α}, l1.Perm l2 → l1.Pairwise lt → l2.Pairwise lt → l1 = l2
  | [], l2, h, _, _ => (List.nil_perm.mp h).symm
  | a :: t1, [], h, _, _ => by
    have := h.length_eq
    simp at this
  | a :: t1, b :: t2, h, p1, p2 => by
    have e : a = b := by
      apply Classical.byContradiction
      intro hne
      have ha : a ∈ t2 := by
        rcases List.mem_cons.mp (h.mem_iff.mp List.mem_cons_self) with g | g
        · exact absurd g hne
        · exact g
      have hb : b ∈ t1 := by
        rcases List.mem_cons.mp (h.mem_iff.mpr List.mem_cons_self) with g | g
        · exact absurd g.symm hne
        · exact g
      exact as a b ((List.pairwise_cons.mp p1).1 b hb) ((List.pairwise_cons.mp p2).1 a ha)
    subst e
    rw [sorted_one as (List.Perm.cons_inv h) (List.pairwise_cons.mp p1).2 (List.pairwise_cons.mp p2).2]
end
end My

set_option Elab.async false
set_option linter.all false
set_option maxRecDepth 100000
set_option maxHeartbeats 4000000
namespace My
open PySem L2
section
variable {P : Program} {w : World} {K : PySem.W.Frag} {mg : Str → Option Value} {base : Heap} {t : Ad}
/-! orders by what they hold -/
theorem filter_one {α : Type} (f : α → Bool) (x : α) : [x].filter f = if f x = true then [x] else [] := by
  cases h : f x <;> simp [h]
theorem lt_asym (p q : Int × Int) : ltP p q → ¬ ltP q p := fun h1 h2 => by
  have h2' : HT.lexLt [q.1, q.2] [p.1, p.2] = true := h2
  rw [lex_asym h1] at h2'
  cases h2'
theorem pw_of : ∀ {ps : List (Int × Int)}, risingB ps = true → ps.Pairwise ltP
  | [], _ => .nil
  | [_], _ => List.pairwise_singleton _ _
  | a :: b :: r, h => by
    rw [risingB, Bool.and_eq_true] at h
    have ih := pw_of h.2
    refine List.pairwise_cons.mpr ⟨fun x hx => ?_, ih⟩
    rcases List.mem_cons.mp hx with rfl | hx
    · exact h.1
    · exact lex_tr h.1 ((List.pairwise_cons.mp ih).1 x hx)
theorem has_iff {ps : List (Int × Int)} {i j : Int} : has ps i j = true ↔ (i, j) ∈ ps := by
  unfold has
  exact decide_eq_true_iff
theorem nd_of {ps : List (Int × Int)} (h : ps.Pairwise ltP) : ps.Nodup := by
  refine List.Pairwise.imp (fun {a b} hab z => ?_) h
  subst z
  exact lt_asym _ _ hab hab
theorem nat_len : ∀ (m : Nat) (l : List Nat), l.Nodup → (∀ x ∈ l, x < m) → l.length ≤ m
  | 0, [], _, _ => Nat.le_refl _
  | 0, x :: _, _, h => absurd (h x List.mem_cons_self) (Nat.not_lt_zero _)
  | m + 1, l, nd, h => by
    by_cases hm : m ∈ l
    · have := nat_len m (l.erase m) (nd.erase m) fun x hx => by
        have := (List.Nodup.mem_erase_iff nd).mp hx
        have := h x this.2
        omega
      rw [List.length_erase_of_mem hm] at this
      omega
    · have := nat_len m l nd fun x hx => by
        have h1 := h x hx
        have : x ≠ m := fun z => hm (z ▸ hx)
        omega
      omega
noncomputable def inBox (p : Int × Int) : Prop := 0 ≤ p.1 ∧ p.1 < 8 ∧ 0 ≤ p.2 ∧ p.2 < 8 ∧ p.1 ≠ p.2
theorem small_prs {ps : List (Int × Int)} (nd : ps.Nodup) (h : ∀ p ∈ ps, inBox p) : ps.length < 64 := by
  have e := nat_len 63 (ps.map fun p => (8 * p.1 + p.2).toNat) (by
    unfold List.Nodup
    rw [List.pairwise_map]
    refine List.Pairwise.imp_of_mem (fun {a b} ha hb hab z => hab ?_) nd
    obtain ⟨a1, a2, a3, a4, _⟩ := h a ha
    obtain ⟨b1, b2, b3, b4, _⟩ := h b hb
    have : 8 * a.1 + a.2 = 8 * b.1 + b.2 := by omega
    exact Prod.ext (by omega) (by omega)) (fun x hx => by
    obtain ⟨p, hp, rfl⟩ := List.mem_map.mp hx
    obtain ⟨a1, a2, a3, a4, _⟩ := h p hp
    show (8 * p.1 + p.2).toNat < 63
    omega)
  rw [List.length_map] at e
  omega
noncomputable def inN (n : Nat) (p : Int × Int) : Prop := 0 ≤ p.1 ∧ p.1 < n ∧ 0 ≤ p.2 ∧ p.2 < n ∧ p.1 ≠ p.2
theorem inN.box {n : Nat} (h8 : n ≤ 8) {p : Int × Int} (h : inN n p) : inBox p := by
  obtain ⟨a, b, c, d, e⟩ := h
  exact ⟨a, by omega, c, by omega, e⟩
theorem ord_of {n : Nat} {ps : List (Int × Int)} (lo : 1 ≤ n) (hi : n ≤ 8) (ix : ∀ p ∈ ps, inN n p) (up : ps.Pairwise ltP) : Ord n ps :=
  ⟨lo, hi, ix, rising_of up, Nat.le_of_lt (Nat.lt_of_lt_of_le (small_prs (nd_of up) fun p hp => (ix p hp).box hi) (by decide))⟩
theorem Ord.box {n : Nat} {ps : List (Int × Int)} (h : Ord n ps) {p : Int × Int} (hp : p ∈ ps) : inBox p := inN.box h.hi (h.ix p hp)
theorem Ord.small {n : Nat} {ps : List (Int × Int)} (h : Ord n ps) : ps.length < 64 := small_prs (nd_of (pw_of h.up)) fun _ hp => h.box hp
theorem Ord.in {n : Nat} {ps : List (Int × Int)} (h : Ord n ps) {i j : Int} (g : has ps i j = true) : inN n (i, j) := h.ix _ (has_iff.mp g)
/-- sorted of a list of pairs -/
theorem rd_sortP {H : Hp} {Q : VK} {p : Addr} {vs : List V} {ps : List (Int × Int)} (e : H p = some (.lst vs) ∨ H p = some (.tup vs)) (hv : IsAll H vs (ps.map prD)) (nd : ps.Nodup) (hb : ∀ p ∈ ps, inBox p)
    (h : ∀ (l : Addr) (vs' : List V) (ps' : List (Int × Int)), H l = none → IsAll H vs' (ps'.map prD) → ps'.Perm ps → ps'.Pairwise ltP → Q (.ref l) (upd H l (.lst vs'))) : rSorted K [.ref p] H Q := by
  have tn : ∀ ps : List (Int × Int), (ps.map fun p => [p.1, p.2]).map (tupOf []) = ps.map prD := fun ps => by rw [List.map_map]; rfl
  refine ⟨p, vs, [], ps.map fun p => [p.1, p.2], 2, rfl, e.elim (fun e => .inl (SqL.of e)) (fun e => .inr (SqT.of e)), by rw [tn]; exact hv, ?_, by decide, ?_, by rw [List.length_map]; exact small_prs nd hb, fun l vs' nss' hl ha hp hw => ?_⟩
  · intro ns hm
    obtain ⟨q, _, rfl⟩ := List.mem_map.mp hm
    rfl
  · unfold List.Nodup
    rw [List.pairwise_map]
    refine List.Pairwise.imp (fun {a b} hab z => hab ?_) nd
    injection z with z1 z2
    injection z2 with z2 _
    exact Prod.ext z1 z2
  · have key : ∀ l : List (List Int), (∀ ns ∈ l, ∃ a b, ns = [a, b]) → l = (l.map fun ns => (ns.getD 0 0, ns.getD 1 0)).map fun p => [p.1, p.2] := fun l hl => by
      induction l with
      | nil => rfl
      | cons x l ih =>
        obtain ⟨a, b, rfl⟩ := hl x List.mem_cons_self
        rw [List.map_cons, List.map_cons, ← ih fun ns hns => hl ns (List.mem_cons_of_mem _ hns)]
        rfl
    have e' := key nss' fun ns hns => by
      obtain ⟨q, _, rfl⟩ := List.mem_map.mp (hp.mem_iff.mp hns)
      exact ⟨_, _, rfl⟩
    generalize nss'.map (fun ns => (ns.getD 0 0, ns.getD 1 0)) = ps' at e'
    subst e'
    rw [tn] at ha
    have hw' := List.pairwise_map.mp hw
    refine h l vs' ps' hl ha ?_ hw'
    have h2 := hp.map fun ns : List Int => (ns.getD 0 0, ns.getD 1 0)
    rw [List.map_map, List.map_map] at h2
    have e1 : ∀ l : List (Int × Int), l.map ((fun ns : List Int => (ns.getD 0 0, ns.getD 1 0)) ∘ fun p => [p.1, p.2]) = l := fun l => by
      refine (List.map_congr_left fun p _ => ?_).trans (List.map_id l)
      rfl
    rw [e1, e1] at h2
    exact h2
theorem ok_ord (n : Nat) (ps : List (Int × Int)) : okD (ordD n ps) := by
  obtain ⟨a, b⟩ := ok_prT ps
  have hd : PyData.depth (.tuple (ps.map prD)) ≤ 2 := by
    rw [PyData.depth]
    have : PyData.depthAll (ps.map prD) ≤ 1 := by
      clear a b
      induction ps with
      | nil => exact Nat.zero_le _
      | cons p ps ih =>
        rw [List.map_cons, PyData.depthAll]
        exact Nat.max_le.mpr ⟨Nat.le_refl _, ih⟩
    omega
  refine ⟨?_, ?_⟩
  · unfold ordD
    rw [PyData.canLay0, PyData.canLayAll0, PyData.canLayAll0, a]
    rfl
  · unfold ordD
    rw [PyData.depth, PyData.depthAll, PyData.depthAll, PyData.depthAll]
    have : PyData.depth (.int (n : Int)) = 0 := rfl
    omega
/-- lists of ints compared -/
theorem eqvAll_ints : ∀ as bs : List Int, PyData.eqvAll (as.map .int) (bs.map .int) = decide (as = bs)
  | [], [] => rfl
  | [], _ :: _ => rfl
  | _ :: _, [] => rfl
  | a :: as, b :: bs => by
    rw [List.map_cons, List.map_cons, PyData.eqvAll, eqvAll_ints as bs, PyData.eqv]
    by_cases h : a = b
    · by_cases h2 : as = bs
      · subst h h2; simp
      · simp [h, h2]
    · simp [h]
theorem ok_ints (as : List Int) : okD (.list (as.map .int)) := by
  have h1 : PyData.canLayAll0 (as.map PyData.int) = true := by
    induction as with
    | nil => rfl
    | cons a as ih => rw [List.map_cons, PyData.canLayAll0, ih]; rfl
  have h2 : PyData.depthAll (as.map PyData.int) ≤ 0 := by
    clear h1
    induction as with
    | nil => exact Nat.le_refl _
    | cons a as ih => rw [List.map_cons, PyData.depthAll]; exact Nat.max_le.mpr ⟨Nat.le_refl _, ih⟩
  refine ⟨?_, ?_⟩
  · rw [PyData.canLay0]; exact h1
  · rw [PyData.depth]; omega
/-! pairs row by row -/
end
end My


set_option Elab.async false
set_option linter.all false
set_option maxRecDepth 100000
set_option maxHeartbeats 4000000
namespace My
open PySem L2
section
variable {P : Program} {w : World} {K : PySem.W.Frag} {mg : Str → Option Value} {base : Heap} {t : Ad}
set_option genSizeOf false in
set_option genInjectivity false in
inductive sp_cell (K : PySem.W.Frag) (vs : List V) (H : Hp) (Q : VK) (zz3 : XK) : Prop where
  | mk (a ns k : _) (zh0 : vs = [.ref a, .int k]) (zh1 : Scr K H a ns) (zh2 : 0 ≤ k) (zh3 : ∀ c H', Same H H' → Q (.int c) H') : sp_cell K vs H Q zz3
theorem int_at {ns : List Int} {k : Int} (h0 : 0 ≤ k) (h1 : k < ns.length) : atI (ns.map V.int) k = some (.int (ns.getD k.toNat 0)) := by
  refine atI_of (i := k.toNat) (by omega) ?_
  rw [List.getElem?_map]
  have : k.toNat < ns.length := by omega
  simp [this]
theorem ok__law_cell_at (T : Txt K mg t) : FnOk P w K mg base CX0 1 t.a__law_cell_at t.d__law_cell_at ["_law_script", "_law_k"] (sp_cell K) := by
  refine T.F__law_cell_at.ok sc__law_cell_at (fun vs H Q E h => ?_) (fun cdv A outer s H vs Q E hr h => ?_)
  · obtain ⟨a, ns, k, rfl, _⟩ := h
    rfl
  · obtain ⟨a, ns, k, rfl, hs, hk, q⟩ := h
    refine ⟨_, (pss_cons (ps_if (pt_cmpR (op_lt) (pv 1) (pe_callB (k_len K) (by rfl) T.n_len bt_len (pa_cons (pv 0) pa_nil)) (nomark _)) (pss_one (ps_ret (pe_ix (k_ix K) (pv 0) (pv 1) (fun _ _ => rfl)))) pss_nil)
      (pss_cons (ps_if (pt_cmpR (k_eqNil K hr.units0) (pv 0) (pe_lst pa_nil) (nomark _)) (pss_one (ps_ret pe_int)) pss_nil)
      (pss_one (ps_ret (pe_op op_add (pe_op op_mul (pe_ix (k_ix K) (pv 0) (pe_op op_mod (pv 1) (pe_callB (k_len K) (by rfl) T.n_len bt_len (pa_cons (pv 0) pa_nil))) (fun _ _ => rfl)) pe_int) (pv 1)))))), ?_⟩
    walk_at "rd"
    refine rd_lenS hs.sq ?_
    walk_at "rd"
    refine ifB (fun h1 => ?_) (fun h1 => ?_)
    · have h1' := of_decide_eq_true h1
      rw [List.length_map] at h1'
      walk_at "rd"
      refine rd_ixS hs.sq (int_at hk h1') ?_
      exact q _ H (Same.refl H)
    · walk_at "rd"
      refine ⟨Nat.zero_le _, fun p hp => ?_⟩
      have s1 := Same.upd (o := .lst []) hp
      walk_at "rd"
      refine ⟨a, p, ns, rfl, rfl, (hs.same s1).sq, SqL.of upd_same, ?_⟩
      walk_at "rd"
      refine ifB (fun h2 => ?_) (fun h2 => ?_)
      · walk_at "rd"
        exact q _ _ s1
      · have h2' := of_decide_eq_false h2
        have hl : 0 < ns.length := List.length_pos_iff.mpr h2'
        walk_at "rd"
        refine rd_lenS (hs.same s1).sq ?_
        rw [List.length_map]
        refine rd_I (by omega) ?_
        refine rd_ixS (hs.same s1).sq (int_at (Int.emod_nonneg _ (by omega)) (Int.emod_lt_of_pos _ (by omega))) ?_
        walk_at "rd"
        refine rd_I (.inr ⟨by decide, by decide⟩) ?_
        walk_at "rd"
        exact q _ _ s1
set_option genSizeOf false in
set_option genInjectivity false in
inductive sp_mixed (K : PySem.W.Frag) (vs : List V) (H : Hp) (Q : VK) (zz3 : XK) : Prop where
  | mk (a ns k m : _) (zh0 : vs = [.ref a, .int k, .int m]) (zh1 : Scr K H a ns) (zh2 : 0 ≤ k) (zh3 : 0 < m) (zh4 : ∀ r H', Same H H' → 0 ≤ r → r < m → Q (.int r) H') : sp_mixed K vs H Q zz3
theorem ok__law_mixed (T : Txt K mg t) : FnOk P w K mg base CX0 2 t.a__law_mixed t.d__law_mixed ["_law_script", "_law_k", "_law_many"] (sp_mixed K) := by
  refine T.F__law_mixed.ok sc__law_mixed (fun vs H Q E h => ?_) (fun cdv A outer s H vs Q E hr h => ?_)
  · obtain ⟨a, ns, k, m, rfl, _⟩ := h
    rfl
  · obtain ⟨a, ns, k, m, rfl, hs, hk, hm, q⟩ := h
    refine ⟨_, (pss_cons (ps_set (i := 3) sc__law_mixed.nd rfl (Or.inl rfl) (pe_op op_mod (pe_op op_add (pe_op op_add (pe_op op_mul (pe_call (ok__law_cell_at T) (hr.mono (by decide)) rfl T.m__law_cell_at T.F__law_cell_at.kp T.b__law_cell_at .nil pass0 (pa_cons (pv 0) (pa_cons (pv 1) pa_nil))) pe_int) (pe_op op_mul pe_int (pv 1))) pe_int) pe_int))
      (pss_one (ps_ret (pe_op op_mod (pe_op op_mod (pe_op op_mod (pe_op op_pow (pv 3) pe_int) pe_int) pe_int) (pv 2))))), ?_⟩
    walk_at "rd"
    refine ⟨a, ns, k, rfl, hs, hk, fun c H1 s1 => ?_⟩
    walk_at "rd"
    refine rd_I (.inr ⟨by decide, by decide⟩) ?_
    walk_at "rd"
    refine rd_I (.inl ⟨by decide, by decide⟩) ?_
    walk_at "rd"
    refine rd_I (by decide) ?_
    walk_at "rd"
    have d0 := Int.emod_nonneg (c * 1103515245 + 7919 * k + 12345) (show (2147483647 : Int) ≠ 0 by decide)
    have d1 := Int.emod_lt_of_pos (c * 1103515245 + 7919 * k + 12345) (show (0 : Int) < 2147483647 by decide)
    refine rd_I ⟨by decide, by decide, by omega⟩ ?_
    walk_at "rd"
    refine rd_I (by decide) ?_
    walk_at "rd"
    refine rd_I (by decide) ?_
    walk_at "rd"
    refine rd_I hm ?_
    exact q _ H1 s1 (Int.emod_nonneg _ (by omega)) (Int.emod_lt_of_pos _ hm)
set_option genSizeOf false in
set_option genInjectivity false in
inductive sp_draw (K : PySem.W.Frag) (vs : List V) (H : Hp) (Q : VK) (zz3 : XK) : Prop where
  | mk (a ns tw ts m : _) (zh0 : vs = [.ref a, .ref tw, .int m]) (zh1 : Scr K H a ns) (zh2 : H tw = some (.lst ts)) (zh3 : ts.length ≤ 500) (zh4 : 0 < m) (zh5 : ∀ r H' ts', SameT tw H H' → H' tw = some (.lst ts') → ts'.length = ts.length + 1 → 0 ≤ r → r < m → Q (.int r) H') : sp_draw K vs H Q zz3
theorem ok__law_draw (T : Txt K mg t) : FnOk P w K mg base CX0 3 t.a__law_draw t.d__law_draw ["_law_script", "_law_town", "_law_many"] (sp_draw K) := by
  refine T.F__law_draw.ok sc__law_draw (fun vs H Q E h => ?_) (fun cdv A outer s H vs Q E hr h => ?_)
  · obtain ⟨a, ns, tw, ts, m, rfl, _⟩ := h
    rfl
  · obtain ⟨a, ns, tw, ts, m, rfl, hs, ht, hl, hm, q⟩ := h
    refine ⟨_, (pss_cons (ps_expr (k_bm K PySem.F.plainAttrs_list PySem.F.slot_list_append PySem.F.type_list_append mt_append (pv 1) (pa_cons pe_int pa_nil)))
      (pss_one (ps_ret (pe_call (ok__law_mixed T) (hr.mono (by decide)) rfl T.m__law_mixed T.F__law_mixed.kp T.b__law_mixed .nil pass0 (pa_cons (pv 0) (pa_cons (pe_callB (k_len K) (by rfl) T.n_len bt_len (pa_cons (pv 1) pa_nil)) (pa_cons (pv 2) pa_nil))))))), ?_⟩
    walk_at "rd"
    refine ⟨tyV_lst ht, ?_⟩
    walk_at "rd"
    refine rd_append ht (small1000 (by omega)) ?_
    have s1 : SameT tw H (upd H tw (.lst (ts ++ [V.int 0]))) := fun b u e g => by rw [upd_ne g]; exact e
    have ht1 : upd H tw (.lst (ts ++ [V.int 0])) tw = some (.lst (ts ++ [V.int 0])) := upd_same
    walk_at "rd"
    refine ⟨a, ns, _, m, rfl, hs.t ht s1, by omega, hm, fun r H2 s2 h0 h1 => ?_⟩
    exact q r H2 _ (s1.trans s2.t) (s2 _ _ ht1) (by simp) h0 h1
set_option genSizeOf false in
set_option genInjectivity false in
inductive sp_pick (K : PySem.W.Frag) (vs : List V) (H : Hp) (Q : VK) (zz3 : XK) : Prop where
  | mk (a ns tw ts l xs : _) (zh0 : vs = [.ref a, .ref tw, .ref l]) (zh1 : Scr K H a ns) (zh2 : H tw = some (.lst ts)) (zh3 : ts.length ≤ 500) (zh4 : H l = some (.lst xs)) (zh5 : l ≠ tw) (zh6 : 0 < xs.length) (zh7 : ∀ v H' ts', SameT tw H H' → H' tw = some (.lst ts') → ts'.length = ts.length + 1 → v ∈ xs → Q v H') : sp_pick K vs H Q zz3
theorem ok__law_pick (T : Txt K mg t) : FnOk P w K mg base CX0 4 t.a__law_pick t.d__law_pick ["_law_script", "_law_town", "_law_some"] (sp_pick K) := by
  refine T.F__law_pick.ok sc__law_pick (fun vs H Q E h => ?_) (fun cdv A outer s H vs Q E hr h => ?_)
  · obtain ⟨a, ns, tw, ts, l, xs, rfl, _⟩ := h
    rfl
  · obtain ⟨a, ns, tw, ts, l, xs, rfl, hs, ht, hl, el, nl, hx, q⟩ := h
    refine ⟨_, (pss_one (ps_ret (pe_ix (k_ix K) (pv 2) (pe_call (ok__law_draw T) (hr.mono (by decide)) rfl T.m__law_draw T.F__law_draw.kp T.b__law_draw .nil pass0 (pa_cons (pv 0) (pa_cons (pv 1) (pa_cons (pe_callB (k_len K) (by rfl) T.n_len bt_len (pa_cons (pv 2) pa_nil)) pa_nil)))) (fun _ _ => rfl)))), ?_⟩
    walk_at "rd"
    refine ⟨a, ns, tw, ts, _, rfl, hs, ht, hl, by omega, fun r H1 ts' s1 ht1 hl1 h0 h1 => ?_⟩
    have hr' : r.toNat < xs.length := by omega
    refine rd_ixL (s1 _ _ el nl) (atI_of (i := r.toNat) (by omega) (List.getElem?_eq_getElem hr')) ?_
    exact q _ H1 ts' s1 ht1 hl1 (List.getElem_mem hr')
end
end My

set_option Elab.async false
set_option linter.all false
set_option maxRecDepth 100000
set_option maxHeartbeats 4000000
namespace My
open PySem L2
section
variable {P : Program} {w : World} {K : PySem.W.Frag} {mg : Str → Option Value} {base : Heap} {t : Ad}
theorem SameT.of {w : Addr} {H : Hp} {l : Addr} {o : HO} (h : H l = none) : SameT w H (upd H l o) := (Same.upd h).t
theorem told_nss (ps : List (Int × Int)) : (ps.map fun p => [p.1, p.2]).map (tupOf []) = ps.map prD := by
  rw [List.map_map]
  rfl
set_option genSizeOf false in
set_option genInjectivity false in
inductive sp_free (K : PySem.W.Frag) (vs : List V) (H : Hp) (Q : VK) (zz3 : XK) : Prop where
  | mk (a ns tw ts lo hi : _) (zh0 : vs = [.ref a, .ref tw, .int lo, .int hi]) (zh1 : 1 ≤ lo) (zh2 : lo ≤ hi) (zh3 : hi ≤ 8) (zh4 : Scr K H a ns) (zh5 : H tw = some (.lst ts)) (zh6 : ts.length ≤ 100) (zh7 : ∀ x H' st line ts', SameT tw H H' → H' tw = some (.lst ts') → ts'.length ≤ ts.length + 11 → 1 ≤ st → st ≤ 5 → lo ≤ line.length → line.length ≤ hi → 1 ≤ line.length → line.length ≤ 8 → (∀ v ∈ line, 0 ≤ v ∧ v ≤ 19) → Is H' x (ordD line.length (toldL st line)) → Q x H') : sp_free K vs H Q zz3
theorem ok__law_free (T : Txt K mg t) : FnOk P w K mg base CX0 5 t.a__law_free t.d__law_free ["_law_script", "_law_town", "_law_low", "_law_most"] (sp_free K) := by
  refine T.F__law_free.ok sc__law_free (fun vs H Q E h => ?_) (fun cdv A outer s H vs Q E hr h => ?_)
  · obtain ⟨a, ns, tw, ts, lo, hi, rfl, _⟩ := h
    rfl
  · obtain ⟨a, ns, tw, ts, lo, hi, rfl, lo1, lohi, hi8, hs, ht, hl, q⟩ := h
    refine ⟨_, (pss_cons (ps_set (i := 4) sc__law_free.nd rfl (Or.inr rfl) (pe_op op_add pe_int (pe_call (ok__law_draw T) (hr.mono (by decide)) rfl T.m__law_draw T.F__law_draw.kp T.b__law_draw .nil pass0 (pa_cons (pv 0) (pa_cons (pv 1) (pa_cons pe_int pa_nil))))))
      (pss_cons (ps_set (i := 5) sc__law_free.nd rfl (Or.inr rfl) (pe_call (ok__law_pick T) (hr.mono (by decide)) rfl T.m__law_pick T.F__law_pick.kp T.b__law_pick .nil pass0 (pa_cons (pv 0) (pa_cons (pv 1) (pa_cons (pe_lst (pa_cons pe_int (pa_cons pe_int (pa_cons pe_int (pa_cons pe_int (pa_cons pe_int pa_nil)))))) pa_nil)))))
      (pss_cons (ps_set (i := 6) sc__law_free.nd rfl (Or.inl rfl) (pe_op op_add (pv 2) (pe_call (ok__law_draw T) (hr.mono (by decide)) rfl T.m__law_draw T.F__law_draw.kp T.b__law_draw .nil pass0 (pa_cons (pv 0) (pa_cons (pv 1) (pa_cons (pe_op op_add (pe_op op_sub (pv 3) (pv 2)) pe_int) pa_nil))))))
      (pss_cons (ps_set (i := 7) sc__law_free.nd rfl (Or.inr rfl) (pe_lc rfl ⟨True.intro, True.intro, True.intro, (.inl rfl), (.inl rfl), (.inl rfl), True.intro⟩ (M := ["_law_k", "_law_script", "_law_town", "_law_wide"]) (.own (.free 0 rfl rfl (.free 1 rfl rfl (.free 5 rfl rfl .nil)))) (gk_name rfl) rfl (by decide +kernel) (pi_range1 rfl T.n_range (pa_cons (pv 6) pa_nil)) (fun C fp s1 H1 => ⟨pg_name (i := 0) (show (["_law_k", "_law_script", "_law_town", "_law_wide"] : List Str).Nodup by decide +kernel) rfl (Or.inl rfl), pif_nil, (pe_call (ok__law_draw T) (hr.mono (by decide)) rfl T.m__law_draw T.F__law_draw.kp T.b__law_draw .nil pass0 (pa_cons (pv 1) (pa_cons (pv 2) (pa_cons (pv 3) pa_nil))))⟩)))
      (pss_cons (ps_set (i := 8) sc__law_free.nd rfl (Or.inl rfl) (pe_lst pa_nil))
      (pss_cons (ps_for PassesOwn.never rfl (pi_range1 rfl T.n_range (pa_cons (pv 6) pa_nil)) (pg_name (i := 9) sc__law_free.nd rfl (Or.inr rfl)) (pss_one (ps_expr (k_bm K PySem.F.plainAttrs_list PySem.F.slot_list_extend PySem.F.type_list_extend mt_extend (pv 8) (pa_cons (pe_lc rfl ⟨True.intro, True.intro, (.inl rfl), (.inl rfl), (.inl rfl), True.intro⟩ (M := ["_law_other", "_law_line_up", "_law_one", "_law_step"]) (.own (.free 7 rfl rfl (.free 9 rfl rfl (.free 4 rfl rfl .nil)))) (gk_name rfl) rfl (by decide +kernel) (pi_range1 rfl T.n_range (pa_cons (pv 6) pa_nil)) (fun C fp s1 H1 => ⟨pg_name (i := 0) (show (["_law_other", "_law_line_up", "_law_one", "_law_step"] : List Str).Nodup by decide +kernel) rfl (Or.inl rfl), pif_one (pt_cmpR (op_ge) (pe_op op_sub (pe_ix (k_ix K) (pv 1) (pv 0) (fun _ _ => rfl)) (pe_ix (k_ix K) (pv 1) (pv 2) (fun _ _ => rfl))) (pv 3) (nomark _)), (pe_tup (pa_cons (pv 2) (pa_cons (pv 0) pa_nil)))⟩)) pa_nil)))))
      (pss_one (ps_ret (pe_tup (pa_cons (pv 6) (pa_cons (pe_callTy (k_tuple K) (by rfl) T.n_tuple bt_tuple (pa_cons (pe_callB (k_sorted K) (by rfl) T.n_sorted bt_sorted (pa_cons (pv 8) pa_nil)) pa_nil)) pa_nil))))))))))), ?_⟩
    walk_at "rd"
    refine ⟨a, ns, tw, ts, 5, rfl, hs, ht, by omega, by decide, fun r1 H1 ts1 s1 ht1 hl1 r10 r11 => ?_⟩
    have hs1 := hs.t ht s1
    walk_at "rd"
    refine ⟨by show 5 ≤ sizeLine; decide, fun l hl' => ?_⟩
    have ntl : l ≠ tw := fun z => by rw [z, ht1] at hl'; cases hl'
    have s2 : SameT tw H1 (upd H1 l (.lst [V.int 3, V.int 6, V.int 9, V.int 14, V.int 20])) := SameT.of hl'
    walk_at "rd"
    refine ⟨a, ns, tw, ts1, l, _, rfl, hs1.t ht1 s2, by rw [upd_ne (Ne.symm ntl)]; exact ht1, by omega, upd_same, ntl, by decide, fun v H2 ts2 s3 ht2 hl2 hv => ?_⟩
    obtain ⟨wd, rfl, wd3, wd20⟩ : ∃ wd : Int, v = .int wd ∧ 3 ≤ wd ∧ wd ≤ 20 := by
      simp only [List.mem_cons, List.not_mem_nil, or_false] at hv
      rcases hv with rfl | rfl | rfl | rfl | rfl <;> exact ⟨_, rfl, by decide, by decide⟩
    have s12 : SameT tw H H2 := (s1.trans s2).trans s3
    have hs2 := hs.t ht s12
    walk_at "rd"
    refine ⟨a, ns, tw, ts2, hi - lo + 1, rfl, hs2, ht2, by omega, by omega, fun r3 H3 ts3 s4 ht3 hl3 r30 r31 => ?_⟩
    have s13 := s12.trans s4
    have hs3 := hs.t ht s13
    obtain ⟨n, hn⟩ : ∃ n : Nat, lo + r3 = (n : Int) := ⟨(lo + r3).toNat, by omega⟩
    have n1 : 1 ≤ n := by omega
    have n8 : n ≤ 8 := by omega
    walk_at "rd"
    rw [hn]
    refine ⟨_, rfl, by omega, by omega, ?_⟩
    rw [Int.toNat_natCast]
    refine lp_range (small_ln (by omega)) (fun i ys H' => SameT tw H H' ∧ (∃ ts', H' tw = some (.lst ts') ∧ ts'.length = ts.length + 3 + i) ∧ ∃ line : List Int, ys = line.map V.int ∧ line.length = i ∧ ∀ v ∈ line, 0 ≤ v ∧ v ≤ 19)
      ⟨s13, ⟨ts3, ht3, by omega⟩, [], rfl, rfl, fun _ h => nomatch h⟩ (by rintro i ys H' ⟨_, _, line, rfl, rfl, _⟩; simp) ?_ ?_
    · rintro i ys H4 hi ⟨s5, ⟨ts4, ht4, hl4⟩, line, rfl, hli, hlv⟩
      walk_at "rd"
      refine ⟨a, ns, tw, ts4, wd, rfl, hs.t ht s5, ht4, by omega, by omega, fun r H5 ts5 s6 ht5 hl5 r0 r1' => ?_⟩
      refine ⟨s5.trans s6, ⟨ts5, ht5, by omega⟩, line ++ [r], by rw [List.map_append]; rfl, by rw [List.length_append, hli]; rfl, fun v hv => ?_⟩
      rcases List.mem_append.mp hv with h | h
      · exact hlv v h
      · rcases List.mem_singleton.mp h with rfl
        omega
    · rintro ys H4 ⟨s5, ⟨ts4, ht4, hl4⟩, line, rfl, hli, hlv⟩ lu hlu
      subst hli
      have ntu : lu ≠ tw := fun z => by rw [z, ht4] at hlu; cases hlu
      have s6 : SameT tw H (upd H4 lu (.lst (line.map V.int))) := s5.trans (SameT.of hlu)
      walk_at "rd"
      refine ⟨Nat.zero_le _, fun pl hpl => ?_⟩
      have ntp : pl ≠ tw := fun z => by
        rw [z, upd_ne (Ne.symm ntu), ht4] at hpl
        cases hpl
      have nup : lu ≠ pl := fun z => by
        rw [← z, upd_same] at hpl
        cases hpl
      have npH : H pl = none := by
        cases e : H pl with
        | none => rfl
        | some u => rw [s6 _ _ e ntp] at hpl; cases hpl
      walk_at "rd"
      refine ⟨_, rfl, by omega, by omega, ?_⟩
      rw [Int.toNat_natCast]
      refine fp_range (fun i σ H' => (∃ v9, σ = [some (.ref a), some (.ref tw), some (.int lo), some (.int hi), some (.int (1 + r1)), some (.int wd), some (.int line.length), some (.ref lu), some (.ref pl), v9]) ∧ SameT tw H H' ∧ H' tw = some (.lst ts4) ∧ H' lu = some (.lst (line.map V.int)) ∧ ∃ zs, H' pl = some (.lst zs) ∧ IsAll H' zs ((tlAll (1 + r1) line i).map prD))
        ⟨⟨_, rfl⟩, s6.trans (SameT.of hpl), by rw [upd_ne (Ne.symm ntp), upd_ne (Ne.symm ntu)]; exact ht4, by rw [upd_ne nup, upd_same], [], upd_same, .nil⟩ ?_ ?_
      · rintro i σ H5 hi ⟨⟨v9, rfl⟩, s7, ht5, hlu5, zs, hz, iz⟩
        walk_at "rd"
        refine ⟨tyV_lst hz, ?_⟩
        walk_at "rd"
        refine ⟨_, rfl, by omega, by omega, ?_⟩
        rw [Int.toNat_natCast]
        refine lp_range (small_ln (by omega)) (fun j ys H' => Same H5 H' ∧ IsAll H' ys ((tlRow (1 + r1) line i j).map prD)) ⟨Same.refl _, .nil⟩ (by
          rintro j ys H' ⟨_, h⟩
          rw [h.length, List.length_map]
          exact tlRow_len _ _ _ _) ?_ ?_
        · rintro j ys H6 hj ⟨s8, iy⟩
          have hlu6 := s8 _ _ hlu5
          rw [tlRow_succ, List.map_append]
          walk_at "rd"
          refine rd_ixL hlu6 (int_at (by omega) (by omega)) ?_
          walk_at "rd"
          refine rd_ixL hlu6 (int_at (by omega) (by omega)) ?_
          rw [Int.zero_add, Int.zero_add, Int.toNat_natCast, Int.toNat_natCast]
          walk_at "rd"
          refine ifB (fun g => ?_) (fun g => ?_)
          · have g' : line.getD j 0 - line.getD i 0 ≥ 1 + r1 := of_decide_eq_true g
            walk_at "rd"
            refine ⟨two_ln, fun p hp => ?_⟩
            have s9 := Same.upd (o := .tup [V.int i, V.int j]) hp
            have e1 : tlI (1 + r1) line i j = [((i : Int), (j : Int))] := by unfold tlI; rw [if_pos g']
            rw [e1]
            refine ⟨s8.trans s9, (iy.same s9).append (.cons (.tup upd_same (.cons (.int _) (.cons (.int _) .nil))) .nil)⟩
          · have g' : ¬ line.getD j 0 - line.getD i 0 ≥ 1 + r1 := of_decide_eq_false g
            have e1 : tlI (1 + r1) line i j = [] := by unfold tlI; rw [if_neg g']
            rw [e1, List.map_nil, List.append_nil]
            walk_at "rd"
            exact ⟨s8, iy⟩
        · rintro ys H6 ⟨s8, iy⟩ b hb
          have s9 := s8.trans (Same.upd (o := .lst ys) hb)
          have npb : pl ≠ b := ne_of_none (s8 _ _ hz) hb
          have lz : zs.length + ys.length ≤ 1000 := by
            have a1 := iz.length
            have a2 := iy.length
            rw [List.length_map] at a1 a2
            have a3 := tlAll_len (1 + r1) line i
            have a4 := tlRow_len (1 + r1) line i line.length
            have a5 : i * line.length ≤ 8 * 8 := Nat.mul_le_mul (by omega) n8
            omega
          walk_at "rd"
          refine rd_extend (s9 _ _ hz) upd_same (small_ln lz) ?_
          walk_at "rd"
          refine ⟨⟨_, rfl⟩, fun c u e g => ?_, ?_, ?_, _, upd_same, ?_⟩
          · have ec : c ≠ pl := fun z => by rw [z, npH] at e; cases e
            rw [upd_ne ec]
            exact s9 _ _ (s7 _ _ e g)
          · rw [upd_ne (Ne.symm ntp)]
            exact s9 _ _ ht5
          · rw [upd_ne nup]
            exact s9 _ _ hlu5
          · rw [tlAll_succ, List.map_append]
            have km : ∀ (c : Addr) (xs : List V), upd H6 b (.lst ys) c = some (.tup xs) → upd (upd H6 b (.lst ys)) pl (.lst (zs ++ ys)) c = some (.tup xs) := fun c xs e => by
              have : c ≠ pl := ne_of e (s9 _ _ hz) (by intro z; cases z)
              rw [upd_ne this]
              exact e
            refine IsAll.append ((iz.same s9).tmono km (noLs_pr _)) ((iy.same (Same.upd hb)).tmono km (noLs_pr _))
      · rintro σ H5 ⟨⟨v9, rfl⟩, s7, ht5, hlu5, zs, hz, iz⟩
        have st1 : 1 ≤ 1 + r1 := by omega
        have hpw := all_up (1 + r1) line line.length
        walk_at "rd"
        refine ⟨pl, zs, [], (toldL (1 + r1) line).map fun p => [p.1, p.2], 2, rfl, .inl (SqL.of hz), by rw [told_nss]; exact iz, ?_, by decide, ?_, by rw [List.length_map]; exact told_len st1 n1 n8, fun l2 vs' nss' hl2 hall hperm hpw' => ?_⟩
        · intro ns hm
          obtain ⟨p, _, rfl⟩ := List.mem_map.mp hm
          rfl
        · rw [List.nodup_iff_pairwise_ne, List.pairwise_map]
          refine hpw.imp fun {p q} h e => ?_
          have h' : HT.lexLt [p.1, p.2] [q.1, q.2] = true := h
          rw [e, lex_irr] at h'
          cases h'
        have en : nss' = (toldL (1 + r1) line).map fun p => [p.1, p.2] := by
          refine sorted_one (lt := fun a b => HT.lexLt a b = true) (fun x y h1 h2 => ?_) hperm hpw' ?_
          · rw [lex_asym h1] at h2
            cases h2
          · rw [List.pairwise_map]
            exact hpw
        rw [en, told_nss] at hall
        have s8 := Same.upd (o := .lst vs') hl2
        have hvl : upd H5 l2 (.lst vs') l2 = some (.lst vs') := upd_same
        walk_at "rd"
        intro p hp
        have s9 := s8.trans (Same.upd (o := .tup vs') hp)
        walk_at "rd"
        refine ⟨by show 2 ≤ sizeLine; decide, fun o ho => ?_⟩
        have s10 := s9.trans (Same.upd (o := .tup [V.int line.length, V.ref p]) ho)
        refine q _ _ (1 + r1) line ts4 (s7.trans s10.t) (s10 _ _ ht5) (by omega) (by omega) (by omega) (by omega) (by omega) n1 n8 hlv ?_
        have npo : p ≠ o := ne_of_none upd_same ho
        exact .tup upd_same (.cons (.int _) (.cons (.tup (by rw [upd_ne npo, upd_same]) (hall.same s10)) .nil))
end
end My

set_option Elab.async false
set_option linter.all false
set_option maxRecDepth 100000
set_option maxHeartbeats 4000000
namespace My
open PySem L2
section
variable {P : Program} {w : World} {K : PySem.W.Frag} {mg : Str → Option Value} {base : Heap} {t : Ad}
theorem if_pick {b : Bool} {i : Nat} {v u : V} {σ : St} {H : Hp} {Q : VK} (e : σ[i]? = some (some v)) (h : Q (if b = true then v else u) H) : if b = true then tVar i σ H Q else tC u σ H Q := by
  cases b with
  | true => exact ⟨v, e, h⟩
  | false => exact h
theorem rot_ne {n a b : Int} (a0 : 0 ≤ a) (a1 : a < n) (b0 : 0 ≤ b) (b1 : b < n - 1) : 0 ≤ (a + 1 + b) % n ∧ (a + 1 + b) % n < n ∧ a ≠ (a + 1 + b) % n := by
  refine ⟨Int.emod_nonneg _ (by omega), Int.emod_lt_of_pos _ (by omega), ?_⟩
  by_cases h : a + 1 + b < n
  · rw [Int.emod_eq_of_lt (by omega) h]
    omega
  · have e : a + 1 + b = (a + 1 + b - n) + n * 1 := by omega
    rw [e, Int.add_mul_emod_self_left, Int.emod_eq_of_lt (by omega) (by omega)]
    omega
noncomputable def outP (q : Int × Int) (ps : List (Int × Int)) : List (Int × Int) := ps.filter fun p => !decide (p = q)
theorem outP_snoc (q p : Int × Int) (ps : List (Int × Int)) : outP q (ps ++ [p]) = outP q ps ++ (if (!decide (p = q)) = true then [p] else []) := by
  unfold outP
  rw [List.filter_append, filter_one]
theorem outP_len (q : Int × Int) (ps : List (Int × Int)) : (outP q ps).length ≤ ps.length := List.length_filter_le _ _
theorem mem_outP {q p : Int × Int} {ps : List (Int × Int)} : p ∈ outP q ps ↔ p ∈ ps ∧ p ≠ q := by
  unfold outP
  rw [List.mem_filter]
  simp
theorem outP_nd {q : Int × Int} {ps : List (Int × Int)} (h : ps.Nodup) : (outP q ps).Nodup := List.Pairwise.filter _ h
theorem nd_snoc {q : Int × Int} {ps : List (Int × Int)} (h : ps.Nodup) (hq : q ∉ ps) : (ps ++ [q]).Nodup := by
  unfold List.Nodup
  rw [List.pairwise_append]
  refine ⟨h, List.pairwise_singleton _ _, fun a ha b hb z => ?_⟩
  rcases List.mem_singleton.mp hb with rfl
  exact hq (z ▸ ha)
theorem pr_get {H : Hp} {ys : List V} {ps : List (Int × Int)} {i : Nat} {x : V} (h : IsAll H ys (ps.map prD)) (e : ys[i]? = some x) : ∃ p, ps[i]? = some p ∧ Is H x (prD p) := by
  obtain ⟨d, ed, id⟩ := h.get' e
  rw [List.getElem?_map] at ed
  cases hpi : ps[i]? with
  | none => rw [hpi] at ed; cases ed
  | some p => rw [hpi] at ed; cases ed; exact ⟨p, rfl, id⟩
set_option genSizeOf false in
set_option genInjectivity false in
inductive sp_any (K : PySem.W.Frag) (vs : List V) (H : Hp) (Q : VK) (zz3 : XK) : Prop where
  | mk (a ns tw ts lo hi : _) (zh0 : vs = [.ref a, .ref tw, .int lo, .int hi]) (zh1 : 1 ≤ lo) (zh2 : lo ≤ hi) (zh3 : hi ≤ 8) (zh4 : Scr K H a ns) (zh5 : H tw = some (.lst ts)) (zh6 : ts.length ≤ 60) (zh7 : ∀ x H' n ps ts', SameT tw H H' → H' tw = some (.lst ts') → ts'.length ≤ ts.length + 30 → lo ≤ (n : Nat) → (n : Int) ≤ hi → Is H' x (ordD n ps) → Ord n ps → Q x H') : sp_any K vs H Q zz3
theorem ok__law_any (T : Txt K mg t) : FnOk P w K mg base CX0 6 t.a__law_any t.d__law_any ["_law_script", "_law_town", "_law_low", "_law_most"] (sp_any K) := by
  refine T.F__law_any.ok sc__law_any (fun vs H Q E h => ?_) (fun cdv A outer s H vs Q E hr h => ?_)
  · obtain ⟨a, ns, tw, ts, lo, hi, rfl, _⟩ := h
    rfl
  · obtain ⟨a, ns, tw, ts, lo, hi, rfl, lo1, lohi, hi8, hs, ht, hl, q⟩ := h
    refine ⟨_, (pss_cons (ps_set (i := 4) sc__law_any.nd rfl (Or.inl rfl) (pe_call (ok__law_draw T) (hr.mono (by decide)) rfl T.m__law_draw T.F__law_draw.kp T.b__law_draw .nil pass0 (pa_cons (pv 0) (pa_cons (pv 1) (pa_cons pe_int pa_nil)))))
      (pss_cons (ps_asg (pe_call (ok__law_free T) (hr.mono (by decide)) rfl T.m__law_free T.F__law_free.kp T.b__law_free .nil pass0 (pa_cons (pv 0) (pa_cons (pv 1) (pa_cons (pv 2) (pa_cons (pv 3) pa_nil))))) (k_gtup K rfl (pgs_cons (pg_name (i := 5) sc__law_any.nd rfl (Or.inl rfl)) (pgs_cons (pg_name (i := 6) sc__law_any.nd rfl (Or.inl rfl)) pgs_nil))))
      (pss_cons (ps_for PassesOwn.never rfl (pi_range1 rfl T.n_range (pa_cons (pe_ifExp (pt_cmpR (op_gt) (pv 5) pe_int (nomark _)) (pv 4) pe_int) pa_nil)) (pg_name (i := 7) sc__law_any.nd rfl (Or.inl rfl)) (pss_cons (ps_set (i := 8) sc__law_any.nd rfl (Or.inr rfl) (pe_call (ok__law_draw T) (hr.mono (by decide)) rfl T.m__law_draw T.F__law_draw.kp T.b__law_draw .nil pass0 (pa_cons (pv 0) (pa_cons (pv 1) (pa_cons (pv 5) pa_nil)))))
      (pss_cons (ps_set (i := 9) sc__law_any.nd rfl (Or.inr rfl) (pe_op op_mod (pe_op op_add (pe_op op_add (pv 8) pe_int) (pe_call (ok__law_draw T) (hr.mono (by decide)) rfl T.m__law_draw T.F__law_draw.kp T.b__law_draw .nil pass0 (pa_cons (pv 0) (pa_cons (pv 1) (pa_cons (pe_op op_sub (pv 5) pe_int) pa_nil))))) (pv 5)))
      (pss_cons (ps_set (i := 10) sc__law_any.nd rfl (Or.inl rfl) (pe_call (ok__law_draw T) (hr.mono (by decide)) rfl T.m__law_draw T.F__law_draw.kp T.b__law_draw .nil pass0 (pa_cons (pv 0) (pa_cons (pv 1) (pa_cons pe_int pa_nil)))))
      (pss_cons (ps_set (i := 6) sc__law_any.nd rfl (Or.inl rfl) (pe_callTy (k_tuple K) (by rfl) T.n_tuple bt_tuple (pa_cons (pe_lc rfl ⟨True.intro, True.intro, (.inl rfl), (.inl rfl), True.intro⟩ (M := ["_law_pair", "_law_one", "_law_other"]) (.own (.free 8 rfl rfl (.free 9 rfl rfl .nil))) (gk_name rfl) rfl (by decide +kernel) (k_ptup K (pv 6)) (fun C fp s1 H1 => ⟨pg_name (i := 0) (show (["_law_pair", "_law_one", "_law_other"] : List Str).Nodup by decide +kernel) rfl (Or.inl rfl), pif_one (pt_cmpR (op_neD hr.units) (pv 0) (pe_tup (pa_cons (pv 1) (pa_cons (pv 2) pa_nil))) (nomark _)), (pv 0)⟩)) pa_nil)))
      (pss_cons (ps_if (pt_cmpR (op_gt) (pv 10) pe_int (nomark _)) (pss_one (ps_set (i := 6) sc__law_any.nd rfl (Or.inl rfl) (pe_op op_catU (pv 6) (pe_tup (pa_cons (pe_tup (pa_cons (pv 8) (pa_cons (pv 9) pa_nil))) pa_nil))))) pss_nil)
      (pss_one (ps_if (pt_cmpR (op_eqD hr.units) (pv 10) pe_int (nomark _)) (pss_one (ps_set (i := 6) sc__law_any.nd rfl (Or.inl rfl) (pe_callTy (k_tuple K) (by rfl) T.n_tuple bt_tuple (pa_cons (pe_lc rfl ⟨True.intro, True.intro, (.inl rfl), (.inl rfl), True.intro⟩ (M := ["_law_pair", "_law_one", "_law_other"]) (.own (.free 8 rfl rfl (.free 9 rfl rfl .nil))) (gk_name rfl) rfl (by decide +kernel) (k_ptup K (pv 6)) (fun C fp s1 H1 => ⟨pg_name (i := 0) (show (["_law_pair", "_law_one", "_law_other"] : List Str).Nodup by decide +kernel) rfl (Or.inl rfl), pif_one (pt_cmpR (op_neD hr.units) (pv 0) (pe_tup (pa_cons (pv 2) (pa_cons (pv 1) pa_nil))) (nomark _)), (pv 0)⟩)) pa_nil)))) pss_nil))))))))
      (pss_one (ps_ret (pe_tup (pa_cons (pv 5) (pa_cons (pe_callTy (k_tuple K) (by rfl) T.n_tuple bt_tuple (pa_cons (pe_callB (k_sorted K) (by rfl) T.n_sorted bt_sorted (pa_cons (pv 6) pa_nil)) pa_nil)) pa_nil)))))))), ?_⟩
    walk_at "rd"
    refine ⟨a, ns, tw, ts, 4, rfl, hs, ht, by omega, by decide, fun r1 H1 ts1 s1 ht1 hl1 r10 r11 => ?_⟩
    walk_at "rd"
    refine ⟨a, ns, tw, ts1, lo, hi, rfl, lo1, lohi, hi8, hs.t ht s1, ht1, by omega, fun x H2 st line ts2 s2 ht2 hl2 st1 st5 nlo nhi n1 n8 hlv hx => ?_⟩
    have ho := told_ord st1 n1 n8
    generalize toldL st line = ps0 at ho hx
    generalize line.length = n at ho hx nlo nhi n1 n8
    have s12 := s1.trans s2
    obtain ⟨oa, ob, xs, rfl, ea, eb, hxs⟩ := is_ord hx
    refine rd_gtup ea rfl ?_
    walk_at "rd"
    refine if_pick rfl ?_
    obtain ⟨c, hc, c3, cn⟩ : ∃ c : Nat, (if decide ((n : Int) > 1) = true then V.int r1 else V.int 0) = V.int (c : Nat) ∧ c ≤ 3 ∧ (0 < c → 1 < n) := by
      by_cases g : (n : Int) > 1
      · refine ⟨r1.toNat, ?_, by omega, fun _ => by omega⟩
        rw [if_pos (decide_eq_true g), Int.toNat_of_nonneg r10]
      · refine ⟨0, ?_, by omega, fun z => absurd z (Nat.lt_irrefl _)⟩
        rw [if_neg (by rw [decide_eq_false g]; exact Bool.false_ne_true)]
        rfl
    rw [hc]
    walk_at "rd"
    refine ⟨_, rfl, by omega, by omega, ?_⟩
    rw [Int.toNat_natCast]
    refine fp_range (fun i σ H' => ∃ u v7 v8 v9 v10 ps', σ = [some (.ref a), some (.ref tw), some (.int lo), some (.int hi), some (.int r1), some (.int n), some (.ref u), v7, v8, v9, v10] ∧ SameT tw H H' ∧ (∃ ts', H' tw = some (.lst ts') ∧ ts'.length ≤ ts.length + 12 + 3 * i) ∧
      Is H' (.ref u) (.tuple (ps'.map prD)) ∧ ps'.Nodup ∧ ∀ p ∈ ps', inN n p) ⟨ob, _, _, _, _, ps0, rfl, s12, ⟨ts2, ht2, by omega⟩, .tup eb hxs, nd_of (pw_of ho.up), ho.ix⟩ ?_ ?_
    · rintro i σ H3 hi' ⟨u, v7, v8, v9, v10, ps, rfl, s3, ⟨ts3, ht3, hl3⟩, iu, nd, hin⟩
      have hn := cn (by omega)
      have sml := small_prs nd fun p hp => (hin p hp).box n8
      walk_at "rd"
      refine ⟨a, ns, tw, ts3, n, rfl, hs.t ht s3, ht3, by omega, by omega, fun r2 H4 ts4 s4 ht4 hl4 r20 r21 => ?_⟩
      have s34 := s3.trans s4
      walk_at "rd"
      refine ⟨a, ns, tw, ts4, (n : Int) - 1, rfl, hs.t ht s34, ht4, by omega, by omega, fun r3 H5 ts5 s5 ht5 hl5 r30 r31 => ?_⟩
      have s35 := s34.trans s5
      walk_at "rd"
      refine rd_I (by omega) ?_
      obtain ⟨w0, w1, w2⟩ := rot_ne r20 r21 r30 r31
      generalize (r2 + 1 + r3) % (n : Int) = r4 at w0 w1 w2
      walk_at "rd"
      refine ⟨a, ns, tw, ts5, 3, rfl, hs.t ht s35, ht5, by omega, by omega, fun r5 H6 ts6 s6 ht6 hl6 r50 r51 => ?_⟩
      have s36 := s35.trans s6
      have iu6 : Is H6 (.ref u) (.tuple (ps.map prD)) := by
        have e : ∀ (H H' : Hp) ts, H tw = some (.lst ts) → SameT tw H H' → Is H (.ref u) (.tuple (ps.map prD)) → Is H' (.ref u) (.tuple (ps.map prD)) := fun H H' ts h1 h2 h3 =>
          h3.tmono (fun c xs e => h2 _ _ e (ne_of e h1 (by intro z; cases z))) (by rw [noL]; exact noLs_pr ps)
        exact e H5 H6 _ ht5 s6 (e H4 H5 _ ht4 s5 (e H3 H4 _ ht3 s4 iu))
      cases iu6 with
      | @tup _ ys _ eu hys =>
      have hly : ys.length = ps.length := by rw [hys.length, List.length_map]
      walk_at "rd"
      refine ⟨u, rfl, ⟨ys, SqT.of eu⟩, ?_⟩
      refine lp_tup (K := K) (xs := ys) (small_ln (by omega)) (fun j zs H' => Same H6 H' ∧ IsAll H' zs ((outP (r2, r4) (ps.take j)).map prD)) ⟨Same.refl _, .nil⟩ (by
        rintro j zs H' ⟨_, h⟩
        rw [h.length, List.length_map]
        have := outP_len (r2, r4) (ps.take j)
        rw [List.length_take] at this
        omega) (fun j zs H' _ h => SqT.of (h.1 _ _ eu)) ?_ ?_
      · rintro j x zs H7 hx ⟨s7, iz⟩
        obtain ⟨p0, hp0, ip0⟩ := pr_get (hys.same s7) hx
        rw [List.take_add_one, hp0, show (some p0).toList = [p0] from rfl, outP_snoc, List.map_append]
        walk_at "rd"
        refine ⟨two_ln, fun p hp => ?_⟩
        have s8 := Same.upd (o := .tup [V.int r2, V.int r4]) hp
        refine rd_eqD (d := prD p0) (e := prD (r2, r4)) (ip0.same s8) (.tup upd_same (.cons (.int _) (.cons (.int _) .nil))) (ok_pr _) (ok_pr _) ?_
        rw [eqv_pr]
        walk_at "rd"
        refine ifB (fun g => ?_) (fun g => ?_)
        · walk_at "rd"
          have g' : (!decide (p0 = (r2, r4))) = true := g
          rw [if_pos g']
          exact ⟨s7.trans s8, (iz.same s8).append (.cons (ip0.same s8) .nil)⟩
        · have g' : (!decide (p0 = (r2, r4))) = false := g
          rw [if_neg (by rw [g']; exact Bool.false_ne_true), List.map_nil, List.append_nil]
          exact ⟨s7.trans s8, iz.same s8⟩
      · rintro zs H7 ⟨s7, iz⟩ lp hlp
        rw [hly, List.take_length] at iz
        have elp : upd H7 lp (.lst zs) lp = some (.lst zs) := upd_same
        have s8 := s7.trans (Same.upd (o := .lst zs) hlp)
        walk_at "rd"
        intro tp htp
        have s9 := s8.trans (Same.upd (o := .tup zs) htp)
        have etp : upd (upd H7 lp (.lst zs)) tp (.tup zs) tp = some (.tup zs) := upd_same
        have iz9 := (iz.same (Same.upd (o := .lst zs) hlp)).same (Same.upd (o := .tup zs) htp)
        have nd1 := outP_nd (q := (r2, r4)) nd
        have nin : (r2, r4) ∉ outP (r2, r4) ps := fun z => (mem_outP.mp z).2 rfl
        have in1 : ∀ p ∈ outP (r2, r4) ps, inN n p := fun p hp => hin p (mem_outP.mp hp).1
        have len1 := outP_len (r2, r4) ps
        have lz : zs.length = (outP (r2, r4) ps).length := by rw [iz.length, List.length_map]
        generalize outP (r2, r4) ps = ps1 at nd1 nin in1 len1 lz iz9
        generalize upd (upd H7 lp (.lst zs)) tp (.tup zs) = H9 at s9 etp iz9
        walk_at "rd"
        refine ifB (fun g => ?_) (fun g => ?_)
        · walk_at "rd"
          refine ⟨two_ln, fun p hp => ?_⟩
          have s10 := Same.upd (o := .tup [V.int r2, V.int r4]) hp
          have ep : upd H9 p (.tup [V.int r2, V.int r4]) p = some (.tup [V.int r2, V.int r4]) := upd_same
          walk_at "rd"
          refine ⟨by show 1 ≤ sizeLine; decide, fun p2 hp2 => ?_⟩
          have s11 := s10.trans (Same.upd (o := .tup [V.ref p]) hp2)
          have ep2 := (Same.upd (o := .tup [V.ref p]) hp2) _ _ ep
          have ep3 : upd (upd H9 p (.tup [V.int r2, V.int r4])) p2 (.tup [V.ref p]) p2 = some (.tup [V.ref p]) := upd_same
          generalize upd (upd H9 p (.tup [V.int r2, V.int r4])) p2 (.tup [V.ref p]) = H11 at s11 ep2 ep3
          refine rd_catU (s11 _ _ etp) ep3 (small_ln (by rw [List.length_singleton]; omega)) fun u2 H12 s12' eu2 => ?_
          have iu2 : IsAll H12 (zs ++ [V.ref p]) ((ps1 ++ [(r2, r4)]).map prD) := by
            rw [List.map_append]
            exact ((iz9.same s11).same s12').append (.cons (.tup (s12' _ _ ep2) (.cons (.int _) (.cons (.int _) .nil))) .nil)
          have nd2 := nd_snoc nd1 nin
          have in2 : ∀ p ∈ ps1 ++ [(r2, r4)], inN n p := fun p hp => by
            rcases List.mem_append.mp hp with h | h
            · exact in1 p h
            · rcases List.mem_singleton.mp h with rfl
              exact ⟨r20, r21, w0, w1, w2⟩
          have s612 : Same H6 H12 := (s9.trans s11).trans s12'
          have sT : SameT tw H H12 := s36.trans s612.t
          have hl2' : (zs ++ [V.ref p]).length = (ps1 ++ [(r2, r4)]).length := by rw [iu2.length, List.length_map]
          have len2 : (ps1 ++ [(r2, r4)]).length ≤ 100 := by rw [List.length_append, List.length_singleton]; omega
          generalize ps1 ++ [(r2, r4)] = ps2 at iu2 nd2 in2 hl2' len2
          generalize zs ++ [V.ref p] = ys2 at iu2 eu2 hl2'
          walk_at "rd"
          refine ifB (fun g2 => ?_) (fun g2 => ?_)
          · walk_at "rd"
            refine ⟨u2, rfl, ⟨ys2, SqT.of eu2⟩, ?_⟩
            refine lp_tup (K := K) (xs := ys2) (small_ln (by omega)) (fun j zs H' => Same H12 H' ∧ IsAll H' zs ((outP (r4, r2) (ps2.take j)).map prD)) ⟨Same.refl _, .nil⟩ (by
              rintro j zs H' ⟨_, h⟩
              rw [h.length, List.length_map]
              have := outP_len (r4, r2) (ps2.take j)
              rw [List.length_take] at this
              omega) (fun j zs H' _ h => SqT.of (h.1 _ _ eu2)) ?_ ?_
            · rintro j x zs H13 hx ⟨s13, iz⟩
              obtain ⟨p0, hp0, ip0⟩ := pr_get (iu2.same s13) hx
              rw [List.take_add_one, hp0, show (some p0).toList = [p0] from rfl, outP_snoc, List.map_append]
              walk_at "rd"
              refine ⟨two_ln, fun p hp => ?_⟩
              have s8 := Same.upd (o := .tup [V.int r4, V.int r2]) hp
              refine rd_eqD (d := prD p0) (e := prD (r4, r2)) (ip0.same s8) (.tup upd_same (.cons (.int _) (.cons (.int _) .nil))) (ok_pr _) (ok_pr _) ?_
              rw [eqv_pr]
              walk_at "rd"
              refine ifB (fun g => ?_) (fun g => ?_)
              · walk_at "rd"
                have g' : (!decide (p0 = (r4, r2))) = true := g
                rw [if_pos g']
                exact ⟨s13.trans s8, (iz.same s8).append (.cons (ip0.same s8) .nil)⟩
              · have g' : (!decide (p0 = (r4, r2))) = false := g
                rw [if_neg (by rw [g']; exact Bool.false_ne_true), List.map_nil, List.append_nil]
                exact ⟨s13.trans s8, iz.same s8⟩
            · rintro zs3 H13 ⟨s13, iz3⟩ lp3 hlp3
              rw [hl2', List.take_length] at iz3
              have elp3 : upd H13 lp3 (.lst zs3) lp3 = some (.lst zs3) := upd_same
              walk_at "rd"
              intro tp3 htp3
              walk_at "rd"
              have sA := Same.upd (o := .lst zs3) hlp3
              have sB := Same.upd (o := .tup zs3) htp3
              refine ⟨tp3, _, _, _, _, outP (r4, r2) ps2, rfl, ((sT.trans s13.t).trans sA.t).trans sB.t, ⟨ts6, sB _ _ (sA _ _ (s13 _ _ (s612 _ _ ht6))), by omega⟩, .tup upd_same ((iz3.same sA).same sB), outP_nd nd2, fun p hp => in2 p (mem_outP.mp hp).1⟩
          · walk_at "rd"
            refine ⟨u2, _, _, _, _, ps2, rfl, sT, ⟨ts6, s612 _ _ ht6, by omega⟩, .tup eu2 iu2, nd2, in2⟩
        · have g' := of_decide_eq_false g
          have r5z : r5 = 0 := by omega
          subst r5z
          walk_at "rd"
          refine ⟨tp, _, _, _, _, ps1, rfl, s36.trans s9.t, ⟨ts6, s9 _ _ ht6, by omega⟩, .tup etp iz9, nd1, in1⟩
    · rintro σ H3 ⟨u, v7, v8, v9, v10, ps, rfl, s3, ⟨ts3, ht3, hl3⟩, iu, nd, hin⟩
      cases iu with
      | @tup _ ys _ eu hys =>
      walk_at "rd"
      refine rd_sortP (.inr eu) hys nd (fun p hp => (hin p hp).box n8) fun l vs' qs hl' ha hperm hpw => ?_
      have s4 := Same.upd (o := .lst vs') hl'
      have ev : upd H3 l (.lst vs') l = some (.lst vs') := upd_same
      walk_at "rd"
      intro tp htp
      have s5 := Same.upd (o := .tup vs') htp
      walk_at "rd"
      refine ⟨by show 2 ≤ sizeLine; decide, fun o ho' => ?_⟩
      have nto : tp ≠ o := ne_of_none upd_same ho'
      have s6 := Same.upd (o := .tup [V.int n, V.ref tp]) ho'
      have sA := (s4.trans s5).trans s6
      refine q _ _ n qs ts3 (s3.trans sA.t) (sA _ _ ht3) (by omega) nlo nhi ?_ (ord_of n1 n8 (fun p hp => hin p (hperm.mem_iff.mp hp)) hpw)
      exact .tup upd_same (.cons (.int _) (.cons (.tup (by rw [upd_ne nto, upd_same]) (((ha.same s4).same s5).same s6)) .nil))
end
end My

set_option Elab.async false
set_option linter.all false
set_option maxRecDepth 100000
set_option maxHeartbeats 4000000
namespace My
open PySem L2
section
variable {P : Program} {w : World} {K : PySem.W.Frag} {mg : Str → Option Value} {base : Heap} {t : Ad}

theorem rd_eqL {H : Hp} {Q : VK} {p r : Addr} {as bs : List Int} (hx : H p = some (.lst (as.map V.int))) (hy : H r = some (.lst (bs.map V.int))) (h : Q (.bl (decide (as = bs))) H) : rEqD false (.ref p) (.ref r) H Q :=
  rd_eqD (.lst (Rd.of hx) (IsAll.ints as)) (.lst (Rd.of hy) (IsAll.ints bs)) (ok_ints as) (ok_ints bs) (by rw [PyData.eqv, eqvAll_ints]; exact h)
/-! names -/
noncomputable def decI (d : PyData) : Int := match d with | .int i => i | _ => 0
theorem dec_ints {lo hi : Int} : ∀ {ds : List PyData}, ds.all (fun d => wholeB d lo hi) = true → ds = (ds.map decI).map PyData.int
  | [], _ => rfl
  | d :: ds, h => by
    rw [List.all_cons, Bool.and_eq_true] at h
    rw [List.map_cons, List.map_cons, ← dec_ints h.2]
    obtain ⟨i, rfl, _⟩ := wholeB_int h.1
    rfl
theorem isAll_ints {H : Hp} : ∀ {xs : List V} {ns : List Int}, IsAll H xs (ns.map PyData.int) → xs = ns.map V.int
  | [], [], _ => rfl
  | x :: xs, n :: ns, .cons h t => by
    cases h
    rw [List.map_cons, ← isAll_ints t]
structure NoNm (d : PyData) (n : Nat) : Prop where
  few : ∀ ds, d = .tuple ds → ds.length < 60
  no : ∀ ns : List Int, d = .tuple (ns.map .int) → ¬ ns.Perm (L2.upTo n)
set_option genSizeOf false in
set_option genInjectivity false in
inductive sp_no_names (vs : List V) (H : Hp) (Q : VK) (zz3 : XK) : Prop where
  | mk (x d n : _) (zh0 : vs = [x, .int (n : Nat)]) (zh1 : Is H x d) (zh2 : n ≤ 8) (zh3 : NoNm d n) (zh4 : ∀ H', Same H H' → Q (.bl false) H') : sp_no_names  vs H Q zz3
theorem ok_is_names (T : Txt K mg t) : FnOk P w K mg base CX0 3 t.a_is_names t.d_is_names ["value", "many"] sp_no_names := by
  refine T.F_is_names.ok sc_is_names (fun vs H Q E h => ?_) (fun cdv A outer s H vs Q E hr h => ?_)
  · obtain ⟨x, d, n, rfl, _⟩ := h
    rfl
  · obtain ⟨x, d, n, rfl, hx, hn, N, q⟩ := h
    refine ⟨_, (pss_cons (ps_if (PW.pt (pw_or (pt_not (pt_val (pe_callB c_isinst (by rfl) T.n_isinstance bt_isinstance (pa_cons (pv 0) (pa_cons (pe_bltn (v := .ty "tuple") rfl T.n_tuple bt_tuple rfl) pa_nil))))) (pw_or1 (pt_not (pt_val (pe_callB (k_all K) (by rfl) T.n_all bt_all (pa_cons (pe_lc rfl ⟨True.intro, True.intro, True.intro, (.inl rfl), True.intro⟩ (M := ["name", "many"]) (.own (.free 1 rfl rfl .nil)) (gk_name rfl) rfl (by decide +kernel) (k_ptup K (pv 0)) (fun C fp s1 H1 => ⟨pg_name (i := 0) (show (["name", "many"] : List Str).Nodup by decide +kernel) rfl (Or.inl rfl), pif_nil, (pe_call (ok_is_thing T) (hr.mono (by decide)) rfl T.m_is_thing T.F_is_thing.kp T.b_is_thing .nil pass0 (pa_cons (pv 0) (pa_cons (pv 1) pa_nil)))⟩)) pa_nil))))))) (pss_one (ps_ret pe_bl)) pss_nil)
      (pss_one (ps_ret (pe_cmpR (op_eqD hr.units) (pe_callB (k_sortI K) (by rfl) T.n_sorted bt_sorted (pa_cons (pv 0) pa_nil)) (pe_callTy (call_lstR rfl) (by rfl) T.n_list bt_list (pa_cons (pe_callTy call_mkR (by rfl) T.n_range bt_range (pa_cons (pv 1) pa_nil)) pa_nil)) (nomark _))))), ?_⟩
    walk_at "rd"
    by_cases hd : ∃ ds, d = .tuple ds
    · obtain ⟨ds, rfl⟩ := hd
      have hlen := N.few _ rfl
      cases hx with
      | @tup a xs _ e hxs =>
      have hl := hxs.length
      walk_at "rd"
      refine ⟨a, rfl, ⟨xs, SqT.of e⟩, ?_⟩
      refine lp_tup (K := K) (xs := xs) (small_ln (by omega)) (fun i zs H' => H' = H ∧ zs = ((ds.take i).map fun d => wholeB d 0 ((n : Int) - 1)).map V.bl) ⟨rfl, rfl⟩ (by rintro i ys H' ⟨_, rfl⟩; simp; omega) (fun i zs H' _ h => by rw [h.1]; exact SqT.of e) ?_ ?_
      · rintro i x zs H' hx ⟨rfl, rfl⟩
        obtain ⟨d, ed, id⟩ := hxs.get' hx
        walk_at "rd"
        refine ⟨_, _, _, rfl, id, ?_⟩
        rw [List.take_add_one, ed, List.map_append, List.map_append]
        exact ⟨rfl, rfl⟩
      · rintro zs H' ⟨rfl, rfl⟩ p hp
        walk_at "rd"
        refine rd_all upd_same ?_
        rw [hl, List.take_length, List.all_map]
        have s1 := Same.upd (o := .lst ((ds.map fun d => wholeB d 0 ((n : Int) - 1)).map V.bl)) hp
        have e1 := s1 _ _ e
        walk_at "rd"
        refine ifB (fun h3 => ?_) (fun h3 => ?_)
        · walk_at "rd"
          exact q _ s1
        · have h3' : ds.all (fun d => wholeB d 0 ((n : Int) - 1)) = true := by simpa using h3
          have ed := dec_ints h3'
          have hxs' := hxs
          rw [ed] at hxs'
          have ex := isAll_ints hxs'
          rw [ex] at e1
          walk_at "rd"
          refine rd_sortI (ns := ds.map decI) (.inl e1) (by rw [List.length_map]; omega) fun l ns' hl' hperm _ => ?_
          have s2 := Same.upd (o := .lst (ns'.map V.int)) hl'
          walk_at "rd"
          refine rd_mkR fun r hr' => ?_
          have s3 := Same.upd (o := .rng 0 (n : Int)) hr'
          walk_at "rd"
          refine rd_lstR upd_same (by omega) fun l2 hl2 => ?_
          have s4 := Same.upd (o := .lst ((L2.upTo n).map V.int)) hl2
          refine rd_eqL (s4 _ _ (s3 _ _ upd_same)) upd_same ?_
          rw [decide_eq_false (fun (z : ns' = L2.upTo n) => N.no (ds.map decI) (by rw [← ed]) (by rw [← z]; exact hperm.symm))]
          exact q _ (((s1.trans s2).trans s3).trans s4)
    · have ht : isTupD d = false := isTup_no fun ds z => hd ⟨ds, z⟩
      rw [ht]
      walk_at "rd"
      exact q H (Same.refl H)
end
end My

set_option Elab.async false
set_option linter.all false
set_option maxRecDepth 100000
set_option maxHeartbeats 4000000
namespace My
open PySem L2
section
variable {P : Program} {w : World} {K : PySem.W.Frag} {mg : Str → Option Value} {base : Heap} {t : Ad}
/-! what may refuse -/
set_option genSizeOf false in
set_option genInjectivity false in
inductive sp_need_order (t : Ad) (vs : List V) (H : Hp) (Q : VK) (E : XK) : Prop where
  | mk (x d : _) (zh0 : vs = [x]) (zh1 : Is H x d) (zh2 : okOrd d) (zh3 : (orderB d = true → ∀ H', Same H H' → Q .non H')) (zh4 : (orderB d = false → ∀ H', Same H H' → E (.ref t.c_NoOrder) none H')) : sp_need_order t vs H Q E
theorem ok_need_order (T : Txt K mg t) : FnOk P w K mg base (CXE P w) 5 t.a_need_order t.d_need_order ["value"] (sp_need_order t) := by
  refine T.F_need_order.okX sc_need_order (fun vs H Q E h => ?_) (fun cdv A outer s H vs Q E hr h => ?_)
  · obtain ⟨x, d, rfl, _⟩ := h
    rfl
  · obtain ⟨x, d, rfl, hx, hok, q1, q2⟩ := h
    refine ⟨_, (pss_one (ps_if (pt_not (pt_val (pe_call (ok_is_order T) (hr.mono (by decide)) rfl T.m_is_order T.F_is_order.kp T.b_is_order .nil pass0 (pa_cons (pv 0) pa_nil)))) (pss_one (ps_raise T.g_NoOrder T.Z_NoOrder.exc rfl (pa_cons pe_str pa_nil))) pss_nil)), ?_⟩
    walk_at "rd"
    refine ⟨_, _, rfl, hx, hok, fun H' s' => ?_⟩
    cases hw : orderB d with
    | true =>
      walk_at "rd"
      exact q1 hw H' s'
    | false =>
      walk_at "rd"
      exact ⟨by show 1 ≤ sizeLine; decide, q2 hw H' s'⟩
set_option genSizeOf false in
set_option genInjectivity false in
inductive sp_need_thing (t : Ad) (vs : List V) (H : Hp) (Q : VK) (E : XK) : Prop where
  | mk (x d m : _) (zh0 : vs = [x, .int m]) (zh1 : Is H x d) (zh2 : (wholeB d 0 (m - 1) = true → Q .non H)) (zh3 : (wholeB d 0 (m - 1) = false → E (.ref t.c_NoThing) none H)) : sp_need_thing t vs H Q E
theorem ok_need_thing (T : Txt K mg t) : FnOk P w K mg base (CXE P w) 3 t.a_need_thing t.d_need_thing ["value", "many"] (sp_need_thing t) := by
  refine T.F_need_thing.okX sc_need_thing (fun vs H Q E h => ?_) (fun cdv A outer s H vs Q E hr h => ?_)
  · obtain ⟨x, d, m, rfl, _⟩ := h
    rfl
  · obtain ⟨x, d, m, rfl, hx, q1, q2⟩ := h
    refine ⟨_, (pss_one (ps_if (pt_not (pt_val (pe_call (ok_is_thing T) (hr.mono (by decide)) rfl T.m_is_thing T.F_is_thing.kp T.b_is_thing .nil pass0 (pa_cons (pv 0) (pa_cons (pv 1) pa_nil))))) (pss_one (ps_raise T.g_NoThing T.Z_NoThing.exc rfl (pa_cons pe_str pa_nil))) pss_nil)), ?_⟩
    walk_at "rd"
    refine ⟨_, _, _, rfl, hx, ?_⟩
    walk_at "rd"
    cases hw : wholeB d 0 (m - 1) with
    | true =>
      walk_at "rd"
      exact q1 hw
    | false =>
      walk_at "rd"
      exact ⟨by show 1 ≤ sizeLine; decide, q2 hw⟩
set_option genSizeOf false in
set_option genInjectivity false in
inductive sp_need_names (t : Ad) (vs : List V) (H : Hp) (Q : VK) (E : XK) : Prop where
  | mk (x d n : _) (zh0 : vs = [x, .int (n : Nat)]) (zh1 : Is H x d) (zh2 : n ≤ 8) (zh3 : NoNm d n) (zh4 : ∀ H', Same H H' → E (.ref t.c_NoNames) none H') : sp_need_names t vs H Q E
theorem ok_need_names (T : Txt K mg t) : FnOk P w K mg base (CXE P w) 4 t.a_need_names t.d_need_names ["value", "many"] (sp_need_names t) := by
  refine T.F_need_names.okX sc_need_names (fun vs H Q E h => ?_) (fun cdv A outer s H vs Q E hr h => ?_)
  · obtain ⟨x, d, n, rfl, _⟩ := h
    rfl
  · obtain ⟨x, d, n, rfl, hx, hn, N, q⟩ := h
    refine ⟨_, (pss_one (ps_if (pt_not (pt_val (pe_call (ok_is_names T) (hr.mono (by decide)) rfl T.m_is_names T.F_is_names.kp T.b_is_names .nil pass0 (pa_cons (pv 0) (pa_cons (pv 1) pa_nil))))) (pss_one (ps_raise T.g_NoNames T.Z_NoNames.exc rfl (pa_cons pe_str pa_nil))) pss_nil)), ?_⟩
    walk_at "rd"
    refine ⟨_, _, _, rfl, hx, hn, N, fun H' s' => ?_⟩
    walk_at "rd"
    exact ⟨by show 1 ≤ sizeLine; decide, q H' s'⟩
set_option genSizeOf false in
set_option genInjectivity false in
inductive sp_turned (t : Ad) (vs : List V) (H : Hp) (zz2 : VK) (E : XK) : Prop where
  | mk (x d : _) (zh0 : vs = [x]) (zh1 : Is H x d) (zh2 : okOrd d) (zh3 : orderB d = false) (zh4 : ∀ H', Same H H' → E (.ref t.c_NoOrder) none H') : sp_turned t vs H zz2 E
theorem ok_turned (T : Txt K mg t) : FnOk P w K mg base (CXE P w) 6 t.a_turned t.d_turned ["order"] (sp_turned t) := by
  refine T.F_turned.okX sc_turned (fun vs H Q E h => ?_) (fun cdv A outer s H vs Q E hr h => ?_)
  · obtain ⟨x, d, rfl, _⟩ := h
    rfl
  · obtain ⟨x, d, rfl, hx, hok, hd, q⟩ := h
    refine ⟨_, (pss_cons (ps_expr (pe_call (ok_need_order T) (hr.mono (by decide)) rfl T.m_need_order T.F_need_order.kp T.b_need_order .nil passE (pa_cons (pv 0) pa_nil)))
      (pss_cons (ps_set_lc (i := 1) sc_turned.nd rfl rfl rfl rfl ⟨True.intro, True.intro, True.intro, True.intro⟩ (M := ["one", "other"]) (.own (.own .nil)) (gk_tup (gks_cons rfl (gks_cons rfl gks_nil))) rfl (by decide +kernel) (k_ptup K (pe_ix (k_ix K) (pv 0) pe_int (fun _ _ => rfl))) (fun C fp s1 H1 => ⟨k_gtup K (n := 2) rfl (pgs_cons (pg_name (i := 0) (show (["one", "other"] : List Str).Nodup by decide +kernel) rfl (Or.inl rfl)) (pgs_cons (pg_name (i := 1) (show (["one", "other"] : List Str).Nodup by decide +kernel) rfl (Or.inl rfl)) pgs_nil)), pif_nil, (pe_tup (pa_cons (pv 1) (pa_cons (pv 0) pa_nil)))⟩))
      (pss_one (ps_ret (pe_tup (pa_cons (pe_ix (k_ix K) (pv 0) pe_int (fun _ _ => rfl)) (pa_cons (pe_callTy (k_tuple K) (by rfl) T.n_tuple bt_tuple (pa_cons (pe_callB (k_sorted K) (by rfl) T.n_sorted bt_sorted (pa_cons (pv 1) pa_nil)) pa_nil)) pa_nil))))))), ?_⟩
    walk_at "rd"
    exact ⟨_, _, rfl, hx, hok, fun z => absurd (hd.symm.trans z) Bool.false_ne_true, fun _ => q⟩
set_option genSizeOf false in
set_option genInjectivity false in
inductive sp_renamed (t : Ad) (vs : List V) (H : Hp) (zz2 : VK) (E : XK) : Prop where
  | mk (x y d e : _) (zh0 : vs = [x, y]) (zh1 : Is H x d) (zh2 : okOrd d) (zh3 : Is H y e) (zh4 : ((orderB d = false ∧ ∀ H', Same H H' → E (.ref t.c_NoOrder) none H') ∨ ∃ n ps, d = ordD n ps ∧ Ord n ps ∧ NoNm e n ∧ ∀ H', Same H H' → E (.ref t.c_NoNames) none H')) : sp_renamed t vs H zz2 E
theorem ok_renamed (T : Txt K mg t) : FnOk P w K mg base (CXE P w) 6 t.a_renamed t.d_renamed ["order", "names"] (sp_renamed t) := by
  refine T.F_renamed.okX sc_renamed (fun vs H Q E h => ?_) (fun cdv A outer s H vs Q E hr h => ?_)
  · obtain ⟨x, y, d, e, rfl, _⟩ := h
    rfl
  · obtain ⟨x, y, d, e, rfl, hx, hok, hy, h⟩ := h
    refine ⟨_, (pss_cons (ps_expr (pe_call (ok_need_order T) (hr.mono (by decide)) rfl T.m_need_order T.F_need_order.kp T.b_need_order .nil passE (pa_cons (pv 0) pa_nil)))
      (pss_cons (ps_expr (pe_call (ok_need_names T) (hr.mono (by decide)) rfl T.m_need_names T.F_need_names.kp T.b_need_names .nil passE (pa_cons (pv 1) (pa_cons (pe_ix (k_ix K) (pv 0) pe_int (fun _ _ => rfl)) pa_nil))))
      (pss_cons (ps_set_lc (i := 2) sc_renamed.nd rfl rfl rfl rfl ⟨True.intro, True.intro, True.intro, (.inl rfl), True.intro⟩ (M := ["one", "other", "names"]) (.own (.own (.free 1 rfl rfl .nil))) (gk_tup (gks_cons rfl (gks_cons rfl gks_nil))) rfl (by decide +kernel) (k_ptup K (pe_ix (k_ix K) (pv 0) pe_int (fun _ _ => rfl))) (fun C fp s1 H1 => ⟨k_gtup K (n := 2) rfl (pgs_cons (pg_name (i := 0) (show (["one", "other", "names"] : List Str).Nodup by decide +kernel) rfl (Or.inl rfl)) (pgs_cons (pg_name (i := 1) (show (["one", "other", "names"] : List Str).Nodup by decide +kernel) rfl (Or.inl rfl)) pgs_nil)), pif_nil, (pe_tup (pa_cons (pe_ix (k_ix K) (pv 2) (pv 0) (fun _ _ => rfl)) (pa_cons (pe_ix (k_ix K) (pv 2) (pv 1) (fun _ _ => rfl)) pa_nil)))⟩))
      (pss_one (ps_ret (pe_tup (pa_cons (pe_ix (k_ix K) (pv 0) pe_int (fun _ _ => rfl)) (pa_cons (pe_callTy (k_tuple K) (by rfl) T.n_tuple bt_tuple (pa_cons (pe_callB (k_sorted K) (by rfl) T.n_sorted bt_sorted (pa_cons (pv 2) pa_nil)) pa_nil)) pa_nil)))))))), ?_⟩
    walk_at "rd"
    rcases h with ⟨hd, q⟩ | ⟨n, ps, rfl, ho, N, q⟩
    · exact ⟨_, _, rfl, hx, hok, fun z => absurd (hd.symm.trans z) Bool.false_ne_true, fun _ => q⟩
    · refine ⟨_, _, rfl, hx, hok, fun _ H1 s1 => ?_, fun z => absurd (ho.yes.symm.trans z) Bool.noConfusion⟩
      obtain ⟨a, b, xs, rfl, ea, eb, hxs⟩ := is_ord (hx.same s1)
      walk_at "rd"
      exact ⟨_, _, n, rfl, hy.same s1, ho.hi, N, fun H2 s2 => q H2 (s1.trans s2)⟩
set_option genSizeOf false in
set_option genInjectivity false in
inductive sp_without (t : Ad) (vs : List V) (H : Hp) (zz2 : VK) (E : XK) : Prop where
  | mk (x y d e : _) (zh0 : vs = [x, y]) (zh1 : Is H x d) (zh2 : okOrd d) (zh3 : Is H y e) (zh4 : ((orderB d = false ∧ ∀ H', Same H H' → E (.ref t.c_NoOrder) none H') ∨ ∃ n ps, d = ordD n ps ∧ Ord n ps ∧ wholeB e 0 ((n : Int) - 1) = false ∧ ∀ H', Same H H' → E (.ref t.c_NoThing) none H')) : sp_without t vs H zz2 E
theorem ok_number_without (T : Txt K mg t) : FnOk P w K mg base CX0 1 t.a_number_without t.d_number_without ["thing", "left_out"] (fun _ _ _ _ => False) := by
  refine T.F_number_without.ok sc_number_without (fun vs H Q E h => h.elim) (fun cdv A outer s H vs Q E hr h => h.elim)
theorem ok_without (T : Txt K mg t) : FnOk P w K mg base (CXE P w) 6 t.a_without t.d_without ["order", "thing"] (sp_without t) := by
  refine T.F_without.okX sc_without (fun vs H Q E h => ?_) (fun cdv A outer s H vs Q E hr h => ?_)
  · obtain ⟨x, y, d, e, rfl, _⟩ := h
    rfl
  · obtain ⟨x, y, d, e, rfl, hx, hok, hy, h⟩ := h
    refine ⟨_, (pss_cons (ps_expr (pe_call (ok_need_order T) (hr.mono (by decide)) rfl T.m_need_order T.F_need_order.kp T.b_need_order .nil passE (pa_cons (pv 0) pa_nil)))
      (pss_cons (ps_expr (pe_call (ok_need_thing T) (hr.mono (by decide)) rfl T.m_need_thing T.F_need_thing.kp T.b_need_thing .nil passE (pa_cons (pv 1) (pa_cons (pe_ix (k_ix K) (pv 0) pe_int (fun _ _ => rfl)) pa_nil))))
      (pss_cons (ps_if (pt_cmpR (op_eqD hr.units) (pe_ix (k_ix K) (pv 0) pe_int (fun _ _ => rfl)) pe_int (nomark _)) (pss_one (ps_raise T.g_NoCount T.Z_NoCount.exc rfl (pa_cons pe_str pa_nil))) pss_nil)
      (pss_cons (ps_set_lc (i := 2) sc_without.nd rfl rfl rfl rfl ⟨True.intro, True.intro, (.inl rfl), True.intro⟩ (M := ["pair", "thing"]) (.own (.free 1 rfl rfl .nil)) (gk_name rfl) rfl (by decide +kernel) (k_ptup K (pe_ix (k_ix K) (pv 0) pe_int (fun _ _ => rfl))) (fun C fp s1 H1 => ⟨pg_name (i := 0) (show (["pair", "thing"] : List Str).Nodup by decide +kernel) rfl (Or.inl rfl), pif_one (pt_cmpR (op_notInD hr.units) (pv 1) (pv 0) (by rfl)), (pv 0)⟩))
      (pss_cons (ps_set_lc (i := 3) sc_without.nd rfl rfl rfl rfl ⟨True.intro, True.intro, True.intro, True.intro, (.inl rfl), True.intro⟩ (M := ["one", "other", "thing"]) (.own (.own (.free 1 rfl rfl .nil))) (gk_tup (gks_cons rfl (gks_cons rfl gks_nil))) rfl (by decide +kernel) (k_plst K (pv 2)) (fun C fp s1 H1 => ⟨k_gtup K (n := 2) rfl (pgs_cons (pg_name (i := 0) (show (["one", "other", "thing"] : List Str).Nodup by decide +kernel) rfl (Or.inl rfl)) (pgs_cons (pg_name (i := 1) (show (["one", "other", "thing"] : List Str).Nodup by decide +kernel) rfl (Or.inl rfl)) pgs_nil)), pif_nil, (pe_tup (pa_cons (pe_call (ok_number_without T) (hr.mono (by decide)) rfl T.m_number_without T.F_number_without.kp T.b_number_without .nil pass0 (pa_cons (pv 0) (pa_cons (pv 2) pa_nil))) (pa_cons (pe_call (ok_number_without T) (hr.mono (by decide)) rfl T.m_number_without T.F_number_without.kp T.b_number_without .nil pass0 (pa_cons (pv 1) (pa_cons (pv 2) pa_nil))) pa_nil)))⟩))
      (pss_one (ps_ret (pe_tup (pa_cons (pe_op op_sub (pe_ix (k_ix K) (pv 0) pe_int (fun _ _ => rfl)) pe_int) (pa_cons (pe_callTy (k_tuple K) (by rfl) T.n_tuple bt_tuple (pa_cons (pv 3) pa_nil)) pa_nil)))))))))), ?_⟩
    walk_at "rd"
    rcases h with ⟨hd, q⟩ | ⟨n, ps, rfl, ho, N, q⟩
    · exact ⟨_, _, rfl, hx, hok, fun z => absurd (hd.symm.trans z) Bool.false_ne_true, fun _ => q⟩
    · refine ⟨_, _, rfl, hx, hok, fun _ H1 s1 => ?_, fun z => absurd (ho.yes.symm.trans z) Bool.noConfusion⟩
      obtain ⟨a, b, xs, rfl, ea, eb, hxs⟩ := is_ord (hx.same s1)
      walk_at "rd"
      exact ⟨_, _, _, rfl, hy.same s1, fun z => absurd (N.symm.trans z) Bool.false_ne_true, fun _ => q H1 s1⟩
/-- two orders, put together -/
noncomputable def two (t : Ad) (H : Hp) (d e : PyData) (E : XK) (R : (n m : Nat) → (ps qs : List (Int × Int)) → Prop) : Prop :=
  (orderB d = false ∧ ∀ H', Same H H' → E (.ref t.c_NoOrder) none H') ∨ (orderB d = true ∧ okOrd e ∧ orderB e = false ∧ ∀ H', Same H H' → E (.ref t.c_NoOrder) none H') ∨
  ∃ n m ps qs, d = ordD n ps ∧ Ord n ps ∧ e = ordD m qs ∧ Ord m qs ∧ (8 < n + m → ∀ H', Same H H' → E (.ref t.c_Full) none H') ∧ (n + m ≤ 8 → R n m ps qs)
set_option genSizeOf false in
set_option genInjectivity false in
inductive sp_need_room (t : Ad) (vs : List V) (H : Hp) (Q : VK) (E : XK) : Prop where
  | mk (x y d e : _) (zh0 : vs = [x, y]) (zh1 : Is H x d) (zh2 : okOrd d) (zh3 : Is H y e) (zh4 : two t H d e E fun _ _ _ _ => ∀ H', Same H H' → Q .non H') : sp_need_room t vs H Q E
theorem ok_need_room (T : Txt K mg t) : FnOk P w K mg base (CXE P w) 6 t.a_need_room t.d_need_room ["one", "other"] (sp_need_room t) := by
  refine T.F_need_room.okX sc_need_room (fun vs H Q E h => ?_) (fun cdv A outer s H vs Q E hr h => ?_)
  · obtain ⟨x, y, d, e, rfl, _⟩ := h
    rfl
  · obtain ⟨x, y, d, e, rfl, hx, hok, hy, h⟩ := h
    refine ⟨_, (pss_cons (ps_expr (pe_call (ok_need_order T) (hr.mono (by decide)) rfl T.m_need_order T.F_need_order.kp T.b_need_order .nil passE (pa_cons (pv 0) pa_nil)))
      (pss_cons (ps_expr (pe_call (ok_need_order T) (hr.mono (by decide)) rfl T.m_need_order T.F_need_order.kp T.b_need_order .nil passE (pa_cons (pv 1) pa_nil)))
      (pss_one (ps_if (pt_cmpR (op_gt) (pe_op op_add (pe_ix (k_ix K) (pv 0) pe_int (fun _ _ => rfl)) (pe_ix (k_ix K) (pv 1) pe_int (fun _ _ => rfl))) (pe_gint rfl T.c_MOST_THINGS) (nomark _)) (pss_one (ps_raise T.g_Full T.Z_Full.exc rfl (pa_cons pe_str pa_nil))) pss_nil)))), ?_⟩
    walk_at "rd"
    rcases h with ⟨hd, q⟩ | ⟨hd, ke, he, q⟩ | ⟨n, m, ps, qs, rfl, ho, rfl, hp, q1, q2⟩
    · exact ⟨_, _, rfl, hx, hok, fun z => absurd (hd.symm.trans z) Bool.false_ne_true, fun _ => q⟩
    · refine ⟨_, _, rfl, hx, hok, fun _ H1 s1 => ?_, fun z => absurd (hd.symm.trans z) Bool.noConfusion⟩
      walk_at "rd"
      exact ⟨_, _, rfl, hy.same s1, ke, fun z => absurd (he.symm.trans z) Bool.false_ne_true, fun _ H2 s2 => q H2 (s1.trans s2)⟩
    · refine ⟨_, _, rfl, hx, hok, fun _ H1 s1 => ?_, fun z => absurd (ho.yes.symm.trans z) Bool.noConfusion⟩
      walk_at "rd"
      refine ⟨_, _, rfl, hy.same s1, hp.okd, fun _ H2 s2 => ?_, fun z => absurd (hp.yes.symm.trans z) Bool.noConfusion⟩
      have s12 := s1.trans s2
      obtain ⟨a, b, xs, rfl, ea, eb, hxs⟩ := is_ord (hx.same s12)
      obtain ⟨c, d, ys, rfl, ec, ed, hys⟩ := is_ord (hy.same s12)
      walk_at "rd"
      refine ifB (fun g => ?_) (fun g => ?_)
      · have g' : 8 < n + m := by have := of_decide_eq_true g; omega
        walk_at "rd"
        exact ⟨by show 1 ≤ sizeLine; decide, q1 g' H2 s12⟩
      · have g' : n + m ≤ 8 := by have := of_decide_eq_false g; omega
        walk_at "rd"
        exact q2 g' H2 s12
end
end My

set_option Elab.async false
set_option linter.all false
set_option maxRecDepth 100000
set_option maxHeartbeats 4000000
namespace My
open PySem L2
section
variable {P : Program} {w : World} {K : PySem.W.Frag} {mg : Str → Option Value} {base : Heap} {t : Ad}
noncomputable def shf (n : Nat) (p : Int × Int) : Int × Int := (p.1 + n, p.2 + n)
noncomputable def bothL (n : Nat) (ps qs : List (Int × Int)) : List (Int × Int) := ps ++ qs.map (shf n)
set_option genSizeOf false in
set_option genInjectivity false in
inductive sp_both (vs : List V) (H : Hp) (Q : VK) (zz3 : XK) : Prop where
  | mk (x y n m ps qs : _) (zh0 : vs = [x, y]) (zh1 : Is H x (ordD n ps)) (zh2 : Ord n ps) (zh3 : Is H y (ordD m qs)) (zh4 : Ord m qs) (zh5 : ∀ l zs H', Same H H' → H l = none → H' l = some (.lst zs) → IsAll H' zs ((bothL n ps qs).map prD) → Q (.ref l) H') : sp_both  vs H Q zz3
theorem ok_pairs_of_both (T : Txt K mg t) : FnOk P w K mg base CX0 1 t.a_pairs_of_both t.d_pairs_of_both ["one", "other"] sp_both := by
  refine T.F_pairs_of_both.ok sc_pairs_of_both (fun vs H Q E h => ?_) (fun cdv A outer s H vs Q E hr h => ?_)
  · obtain ⟨x, y, n, m, ps, qs, rfl, _⟩ := h
    rfl
  · obtain ⟨x, y, n, m, ps, qs, rfl, hx, ho, hy, hp, q⟩ := h
    refine ⟨_, (pss_one (ps_ret (pe_op op_cat (pe_callTy (k_list K) (by rfl) T.n_list bt_list (pa_cons (pe_ix (k_ix K) (pv 0) pe_int (fun _ _ => rfl)) pa_nil)) (pe_lc rfl ⟨True.intro, True.intro, True.intro, (.inl rfl), True.intro⟩ (M := ["less", "more", "one"]) (.own (.own (.free 0 rfl rfl .nil))) (gk_tup (gks_cons rfl (gks_cons rfl gks_nil))) rfl (by decide +kernel) (k_ptup K (pe_ix (k_ix K) (pv 1) pe_int (fun _ _ => rfl))) (fun C fp s1 H1 => ⟨k_gtup K (n := 2) rfl (pgs_cons (pg_name (i := 0) (show (["less", "more", "one"] : List Str).Nodup by decide +kernel) rfl (Or.inl rfl)) (pgs_cons (pg_name (i := 1) (show (["less", "more", "one"] : List Str).Nodup by decide +kernel) rfl (Or.inl rfl)) pgs_nil)), pif_nil, (pe_tup (pa_cons (pe_op op_add (pv 0) (pe_ix (k_ix K) (pv 2) pe_int (fun _ _ => rfl))) (pa_cons (pe_op op_add (pv 1) (pe_ix (k_ix K) (pv 2) pe_int (fun _ _ => rfl))) pa_nil)))⟩))))), ?_⟩
    have sm1 := ho.small
    have sm2 := hp.small
    obtain ⟨a, b, xs, rfl, ea, eb, hxs⟩ := is_ord hx
    obtain ⟨c, d, ys, rfl, ec, ed, hys⟩ := is_ord hy
    have hl1 : xs.length = ps.length := by rw [hxs.length, List.length_map]
    have hl2 : ys.length = qs.length := by rw [hys.length, List.length_map]
    walk_at "rd"
    refine rd_lstT eb fun l hl => ?_
    have s1 := Same.upd (o := .lst xs) hl
    have ec1 := s1 _ _ ec
    walk_at "rd"
    refine ⟨d, rfl, ⟨ys, SqT.of (s1 _ _ ed)⟩, ?_⟩
    refine lp_tup (K := K) (xs := ys) (small_ln (by omega)) (fun j zs H' => Same (upd H l (.lst xs)) H' ∧ IsAll H' zs (((qs.take j).map (shf n)).map prD)) ⟨Same.refl _, .nil⟩ (by
      rintro j zs H' ⟨_, h⟩
      rw [h.length]
      simp
      omega) (fun j zs H' _ h => SqT.of (h.1 _ _ (s1 _ _ ed))) ?_ ?_
    · rintro j x zs H2 hx ⟨s2, iz⟩
      obtain ⟨p0, hp0, ip0⟩ := pr_get ((hys.same s1).same s2) hx
      have ea2 := s2 _ _ (s1 _ _ ea)
      unfold prD at ip0
      cases ip0 with
      | @tup r us _ er hus =>
      obtain rfl := two_ints hus
      walk_at "rd"
      refine rd_gtup er rfl ?_
      walk_at "rd"
      refine ⟨two_ln, fun p hp => ?_⟩
      have s3 := Same.upd (o := .tup [V.int (p0.1 + n), V.int (p0.2 + n)]) hp
      refine ⟨s2.trans s3, ?_⟩
      rw [List.take_add_one, hp0, List.map_append, List.map_append]
      exact (iz.same s3).append (.cons (.tup upd_same (.cons (.int _) (.cons (.int _) .nil))) .nil)
    · rintro zs H2 ⟨s2, iz⟩ p hp
      rw [hl2, List.take_length] at iz
      have hlz : zs.length = qs.length := by rw [iz.length, List.length_map, List.length_map]
      have s3 := Same.upd (o := .lst zs) hp
      refine rd_cat (s3 _ _ (s2 _ _ upd_same)) upd_same (small_ln (by omega)) fun o ho' => ?_
      have s4 := Same.upd (o := .lst (xs ++ zs)) ho'
      have sA := ((s1.trans s2).trans s3).trans s4
      have hno : H o = none := by
        cases e : H o with
        | none => rfl
        | some u => rw [((s1.trans s2).trans s3) _ _ e] at ho'; cases ho'
      refine q o _ _ sA hno upd_same ?_
      unfold bothL
      rw [List.map_append]
      exact (hxs.same sA).append ((iz.same s3).same s4)
noncomputable def acI (n i j : Nat) : Int × Int := ((i : Int), ((n : Int) + (j : Int)))
noncomputable def acRow (n i m : Nat) : List (Int × Int) := (List.range m).map (acI n i)
noncomputable def acAll (n m k : Nat) : List (Int × Int) := (List.range k).flatMap fun i => acRow n i m
theorem acRow_succ (n i m : Nat) : acRow n i (m + 1) = acRow n i m ++ [acI n i m] := by
  unfold acRow
  rw [List.range_succ, List.map_append]
  rfl
theorem acAll_succ (n m k : Nat) : acAll n m (k + 1) = acAll n m k ++ acRow n k m := by
  unfold acAll
  rw [List.range_succ, List.flatMap_append]
  simp
theorem acRow_len (n i m : Nat) : (acRow n i m).length = m := by unfold acRow; simp
theorem acAll_len (n m : Nat) : ∀ k, (acAll n m k).length = k * m
  | 0 => by simp [acAll]
  | k + 1 => by rw [acAll_succ, List.length_append, acAll_len n m k, acRow_len, Nat.succ_mul]
theorem mem_acAll {n m k : Nat} {p : Int × Int} : p ∈ acAll n m k ↔ ∃ i j : Nat, i < k ∧ j < m ∧ p = acI n i j := by
  unfold acAll acRow
  rw [List.mem_flatMap]
  constructor
  · rintro ⟨i, hi, h⟩
    obtain ⟨j, hj, rfl⟩ := List.mem_map.mp h
    exact ⟨i, j, List.mem_range.mp hi, List.mem_range.mp hj, rfl⟩
  · rintro ⟨i, j, hi, hj, rfl⟩
    exact ⟨i, List.mem_range.mpr hi, List.mem_map.mpr ⟨j, List.mem_range.mpr hj, rfl⟩⟩
theorem acRow_up (n i : Nat) : ∀ m, (acRow n i m).Pairwise ltP
  | 0 => .nil
  | m + 1 => by
    rw [acRow_succ, List.pairwise_append]
    refine ⟨acRow_up n i m, List.pairwise_singleton _ _, fun p hp q hq => ?_⟩
    obtain ⟨j, hj, rfl⟩ := List.mem_map.mp (show p ∈ (List.range m).map (acI n i) from hp)
    rcases List.mem_singleton.mp hq with rfl
    have := List.mem_range.mp hj
    exact ltP_of (.inr ⟨rfl, by show (n : Int) + (j : Int) < (n : Int) + (m : Int); omega⟩)
theorem acAll_up (n m : Nat) : ∀ k, (acAll n m k).Pairwise ltP
  | 0 => .nil
  | k + 1 => by
    rw [acAll_succ, List.pairwise_append]
    refine ⟨acAll_up n m k, acRow_up n k m, fun p hp q hq => ?_⟩
    obtain ⟨i, j, hi, hj, rfl⟩ := mem_acAll.mp hp
    obtain ⟨j', _, rfl⟩ := List.mem_map.mp (show q ∈ (List.range m).map (acI n k) from hq)
    exact ltP_of (.inl (by show (i : Int) < (k : Int); omega))
theorem growP {H : Hp} {l p : Addr} {xs : List V} {ps : List (Int × Int)} {r : Int × Int} (hl : H l = some (.lst xs)) (hp : H p = none) (h : IsAll H xs (ps.map prD)) :
    IsAll (upd (upd H p (.tup [V.int r.1, V.int r.2])) l (.lst (xs ++ [V.ref p]))) (xs ++ [V.ref p]) ((ps ++ [r]).map prD) := by
  have nlp : p ≠ l := fun z => by rw [z, hl] at hp; cases hp
  have km : ∀ (c : Addr) (us : List V), H c = some (.tup us) → upd (upd H p (.tup [V.int r.1, V.int r.2])) l (.lst (xs ++ [V.ref p])) c = some (.tup us) := fun c us e => by
    have h1 : c ≠ l := ne_of e hl (by intro z; cases z)
    have h2 : c ≠ p := ne_of_none e hp
    rw [upd_ne h1, upd_ne h2]
    exact e
  rw [List.map_append]
  exact (h.tmono km (noLs_pr _)).append (.cons (.tup (by rw [upd_ne nlp, upd_same]) (.cons (.int _) (.cons (.int _) .nil))) .nil)
set_option genSizeOf false in
set_option genInjectivity false in
inductive sp_across (vs : List V) (H : Hp) (Q : VK) (zz3 : XK) : Prop where
  | mk (x y n m ps qs : _) (zh0 : vs = [x, y]) (zh1 : Is H x (ordD n ps)) (zh2 : Is H y (ordD m qs)) (zh3 : n ≤ 8) (zh4 : m ≤ 8) (zh5 : ∀ l zs H', Same H H' → H l = none → H' l = some (.lst zs) → IsAll H' zs ((acAll n m n).map prD) → Q (.ref l) H') : sp_across  vs H Q zz3
theorem ok_pairs_across (T : Txt K mg t) : FnOk P w K mg base CX0 1 t.a_pairs_across t.d_pairs_across ["one", "other"] sp_across := by
  refine T.F_pairs_across.ok sc_pairs_across (fun vs H Q E h => ?_) (fun cdv A outer s H vs Q E hr h => ?_)
  · obtain ⟨x, y, n, m, ps, qs, rfl, _⟩ := h
    rfl
  · obtain ⟨x, y, n, m, ps, qs, rfl, hx, hy, hn, hm, q⟩ := h
    refine ⟨_, (pss_cons (ps_set (i := 2) sc_pairs_across.nd rfl (Or.inl rfl) (pe_lst pa_nil))
      (pss_cons (ps_for PassesOwn.never rfl (pi_range1 rfl T.n_range (pa_cons (pe_ix (k_ix K) (pv 0) pe_int (fun _ _ => rfl)) pa_nil)) (pg_name (i := 3) sc_pairs_across.nd rfl (Or.inl rfl)) (pss_one (ps_for PassesOwn.never rfl (pi_range2 rfl T.n_range (pa_cons (pe_ix (k_ix K) (pv 0) pe_int (fun _ _ => rfl)) (pa_cons (pe_op op_add (pe_ix (k_ix K) (pv 0) pe_int (fun _ _ => rfl)) (pe_ix (k_ix K) (pv 1) pe_int (fun _ _ => rfl))) pa_nil))) (pg_name (i := 4) sc_pairs_across.nd rfl (Or.inl rfl)) (pss_one (ps_expr (k_bm K PySem.F.plainAttrs_list PySem.F.slot_list_append PySem.F.type_list_append mt_append (pv 2) (pa_cons (pe_tup (pa_cons (pv 3) (pa_cons (pv 4) pa_nil))) pa_nil)))))))
      (pss_one (ps_ret (pv 2))))), ?_⟩
    obtain ⟨a, b, xs, rfl, ea, eb, hxs⟩ := is_ord hx
    obtain ⟨c, d, ys, rfl, ec, ed, hys⟩ := is_ord hy
    walk_at "rd"
    refine ⟨Nat.zero_le _, fun l hl => ?_⟩
    have s0 := Same.upd (o := .lst []) hl
    have ea0 := s0 _ _ ea
    walk_at "rd"
    refine ⟨_, rfl, by omega, by omega, ?_⟩
    rw [Int.toNat_natCast]
    refine fp_range (fun i σ H' => (∃ va vb, σ = [some (.ref a), some (.ref c), some (.ref l), va, vb]) ∧ Same H H' ∧ ∃ zs, H' l = some (.lst zs) ∧ IsAll H' zs ((acAll n m i).map prD)) ⟨⟨_, _, rfl⟩, s0, [], upd_same, .nil⟩ ?_ ?_
    · rintro i σ H1 hi ⟨⟨va, vb, rfl⟩, s1, zs, hz, iz⟩
      have ea1 := s1 _ _ ea
      have ec1 := s1 _ _ ec
      walk_at "rd"
      refine rd_rng2 ?_
      walk_at "rd"
      refine ⟨n, (n : Int) + m, rfl, ⟨by omega, by omega, by omega, by omega⟩, ?_⟩
      rw [show ((n : Int) + m - n).toNat = m by omega]
      refine fp_range (fun j σ H' => (∃ vb, σ = [some (.ref a), some (.ref c), some (.ref l), some (.int (0 + i)), vb]) ∧ Same H H' ∧ ∃ zs, H' l = some (.lst zs) ∧ IsAll H' zs ((acAll n m i ++ acRow n i j).map prD)) ⟨⟨_, rfl⟩, s1, zs, hz, by simpa [acRow] using iz⟩ ?_ ?_
      · rintro j σ H2 hj ⟨⟨vb, rfl⟩, s2, zs2, hz2, iz2⟩
        walk_at "rd"
        refine ⟨tyV_lst hz2, ?_⟩
        walk_at "rd"
        refine ⟨two_ln, fun p hp => ?_⟩
        have hlp : l ≠ p := ne_of_none hz2 hp
        have hlen : zs2.length ≤ 8 * 8 + 8 := by
          rw [iz2.length, List.length_map, List.length_append, acAll_len, acRow_len]
          have h3 : i * m ≤ 8 * 8 := Nat.mul_le_mul (by omega) hm
          omega
        walk_at "rd"
        refine rd_append (xs := zs2) (by rw [upd_ne hlp]; exact hz2) (small1000 (by omega)) ?_
        walk_at "rd"
        refine ⟨⟨_, rfl⟩, fun e u h => ?_, _, upd_same, ?_⟩
        · have e3 := s2 e u h
          rw [upd_ne (ne_of_none h hl), upd_ne (ne_of_none e3 hp)]
          exact e3
        · rw [acRow_succ, ← List.append_assoc, Int.zero_add]
          exact growP (r := acI n i j) hz2 hp iz2
      · rintro σ H2 ⟨⟨vb, rfl⟩, s2, zs2, hz2, iz2⟩
        exact ⟨⟨_, _, rfl⟩, s2, zs2, hz2, by rw [acAll_succ]; exact iz2⟩
    · rintro σ H1 ⟨⟨va, vb, rfl⟩, s1, zs, hz, iz⟩
      walk_at "rd"
      exact q l zs H1 s1 hl hz iz
/-! what they hold -/
theorem mem_both {n : Nat} {ps qs : List (Int × Int)} {i j : Int} : (i, j) ∈ bothL n ps qs ↔ (i, j) ∈ ps ∨ (i - n, j - n) ∈ qs := by
  unfold bothL
  rw [List.mem_append]
  refine or_congr Iff.rfl ?_
  rw [List.mem_map]
  constructor
  · rintro ⟨⟨a, b⟩, h, e⟩
    unfold shf at e
    injection e with e1 e2
    have e1' : a + (n : Int) = i := e1
    have e2' : b + (n : Int) = j := e2
    rw [← e1', ← e2', Int.add_sub_cancel, Int.add_sub_cancel]
    exact h
  · intro h
    refine ⟨_, h, ?_⟩
    unfold shf
    exact Prod.ext (by show i - (n : Int) + n = i; omega) (by show j - (n : Int) + n = j; omega)
theorem mem_ac {n m : Nat} {i j : Int} : (i, j) ∈ acAll n m n ↔ 0 ≤ i ∧ i < n ∧ (n : Int) ≤ j ∧ j < n + m := by
  rw [mem_acAll]
  constructor
  · rintro ⟨a, b, ha, hb, e⟩
    unfold acI at e
    injection e with e1 e2
    subst e1 e2
    omega
  · rintro ⟨h1, h2, h3, h4⟩
    refine ⟨i.toNat, (j - n).toNat, by omega, by omega, ?_⟩
    unfold acI
    exact Prod.ext (by show i = (i.toNat : Int); omega) (by show j = (n : Int) + ((j - n).toNat : Int); omega)
theorem both_in {n m : Nat} {ps qs : List (Int × Int)} (ho : Ord n ps) (hp : Ord m qs) {p : Int × Int} (h : p ∈ bothL n ps qs) : inN (n + m) p := by
  obtain ⟨i, j⟩ := p
  rcases mem_both.mp h with h | h
  · obtain ⟨a1, a2, a3, a4, a5⟩ := ho.ix _ h
    simp only at a1 a2 a3 a4 a5
    exact ⟨a1, by show i < ((n + m : Nat) : Int); omega, a3, by show j < ((n + m : Nat) : Int); omega, a5⟩
  · obtain ⟨a1, a2, a3, a4, a5⟩ := hp.ix _ h
    simp only at a1 a2 a3 a4 a5
    exact ⟨by show 0 ≤ i; omega, by show i < ((n + m : Nat) : Int); omega, by show 0 ≤ j; omega, by show j < ((n + m : Nat) : Int); omega, by show i ≠ j; omega⟩
theorem both_up {n m : Nat} {ps qs : List (Int × Int)} (ho : Ord n ps) (hp : Ord m qs) : (bothL n ps qs).Pairwise ltP := by
  unfold bothL
  rw [List.pairwise_append]
  refine ⟨pw_of ho.up, ?_, fun p hp1 q hq => ?_⟩
  · rw [List.pairwise_map]
    refine List.Pairwise.imp (fun {a b} h => ?_) (pw_of hp.up)
    have h' : HT.lexLt [a.1, a.2] [b.1, b.2] = true := h
    rw [HT.lexLt_cons] at h'
    by_cases e : a.1 = b.1
    · rw [if_pos e, HT.lexLt_cons] at h'
      by_cases e2 : a.2 = b.2
      · rw [if_pos e2] at h'; cases h'
      · rw [if_neg e2] at h'
        have := of_decide_eq_true h'
        exact ltP_of (.inr ⟨by show a.1 + (n : Int) = b.1 + n; omega, by show a.2 + (n : Int) < b.2 + n; omega⟩)
    · rw [if_neg e] at h'
      have := of_decide_eq_true h'
      exact ltP_of (.inl (by show a.1 + (n : Int) < b.1 + n; omega))
  · obtain ⟨r, hr, rfl⟩ := List.mem_map.mp hq
    obtain ⟨_, a2, _⟩ := ho.ix _ hp1
    obtain ⟨b1, _⟩ := hp.ix _ hr
    exact ltP_of (.inl (by show p.1 < r.1 + (n : Int); omega))
noncomputable def joinL (n m : Nat) (ps qs : List (Int × Int)) : List (Int × Int) := bothL n ps qs ++ acAll n m n
theorem join_in {n m : Nat} {ps qs : List (Int × Int)} (ho : Ord n ps) (hp : Ord m qs) {p : Int × Int} (h : p ∈ joinL n m ps qs) : inN (n + m) p := by
  rcases List.mem_append.mp h with h | h
  · exact both_in ho hp h
  · obtain ⟨i, j⟩ := p
    obtain ⟨h1, h2, h3, h4⟩ := mem_ac.mp h
    exact ⟨h1, by show i < ((n + m : Nat) : Int); omega, by show 0 ≤ j; omega, by show j < ((n + m : Nat) : Int); omega, by show i ≠ j; omega⟩
theorem join_nd {n m : Nat} {ps qs : List (Int × Int)} (ho : Ord n ps) (hp : Ord m qs) : (joinL n m ps qs).Nodup := by
  unfold List.Nodup joinL
  rw [List.pairwise_append]
  refine ⟨nd_of (both_up ho hp), nd_of (acAll_up n m n), fun p h1 q h2 z => ?_⟩
  subst z
  obtain ⟨i, j⟩ := p
  obtain ⟨c1, c2, c3, c4⟩ := mem_ac.mp h2
  rcases mem_both.mp h1 with h | h
  · obtain ⟨a1, a2, a3, a4, a5⟩ := ho.ix _ h
    simp only at a4
    omega
  · obtain ⟨a1, a2, a3, a4, a5⟩ := hp.ix _ h
    simp only at a1
    omega
end
end My

set_option Elab.async false
set_option linter.all false
set_option maxRecDepth 100000
set_option maxHeartbeats 4000000
namespace My
open PySem L2
section
variable {P : Program} {w : World} {K : PySem.W.Frag} {mg : Str → Option Value} {base : Heap} {t : Ad}
set_option genSizeOf false in
set_option genInjectivity false in
inductive sp_two (t : Ad) (vs : List V) (H : Hp) (Q : VK) (E : XK) : Prop where
  | mk (x y d e : _) (zh0 : vs = [x, y]) (zh1 : Is H x d) (zh2 : okOrd d) (zh3 : Is H y e) (zh4 : two t H d e E fun n m _ _ => ∀ z H' rs, Same H H' → Is H' z (ordD (n + m) rs) → Ord (n + m) rs → Q z H') : sp_two t vs H Q E
theorem ok_joined (T : Txt K mg t) : FnOk P w K mg base (CXE P w) 7 t.a_joined t.d_joined ["one", "other"] (sp_two t) := by
  refine T.F_joined.okX sc_joined (fun vs H Q E h => ?_) (fun cdv A outer s H vs Q E hr h => ?_)
  · obtain ⟨x, y, d, e, rfl, _⟩ := h
    rfl
  · obtain ⟨x, y, d, e, rfl, hx, hok, hy, h⟩ := h
    refine ⟨_, (pss_cons (ps_expr (pe_call (ok_need_room T) (hr.mono (by decide)) rfl T.m_need_room T.F_need_room.kp T.b_need_room .nil passE (pa_cons (pv 0) (pa_cons (pv 1) pa_nil))))
      (pss_cons (ps_set (i := 2) sc_joined.nd rfl (Or.inl rfl) (pe_op op_cat (pe_call (ok_pairs_of_both T) (hr.mono (by decide)) rfl T.m_pairs_of_both T.F_pairs_of_both.kp T.b_pairs_of_both .nil pass0 (pa_cons (pv 0) (pa_cons (pv 1) pa_nil))) (pe_call (ok_pairs_across T) (hr.mono (by decide)) rfl T.m_pairs_across T.F_pairs_across.kp T.b_pairs_across .nil pass0 (pa_cons (pv 0) (pa_cons (pv 1) pa_nil)))))
      (pss_one (ps_ret (pe_tup (pa_cons (pe_op op_add (pe_ix (k_ix K) (pv 0) pe_int (fun _ _ => rfl)) (pe_ix (k_ix K) (pv 1) pe_int (fun _ _ => rfl))) (pa_cons (pe_callTy (k_tuple K) (by rfl) T.n_tuple bt_tuple (pa_cons (pe_callB (k_sorted K) (by rfl) T.n_sorted bt_sorted (pa_cons (pv 2) pa_nil)) pa_nil)) pa_nil))))))), ?_⟩
    walk_at "rd"
    refine ⟨x, y, d, e, rfl, hx, hok, hy, ?_⟩
    rcases h with h | h | ⟨n, m, ps, qs, rfl, ho, rfl, hp, q1, q2⟩
    · exact .inl h
    · exact .inr (.inl h)
    refine .inr (.inr ⟨n, m, ps, qs, rfl, ho, rfl, hp, q1, fun hnm H1 s1 => ?_⟩)
    have q := q2 hnm
    have n1 := ho.lo
    have sm := small_prs (join_nd ho hp) fun p h => (join_in ho hp h).box hnm
    walk_at "rd"
    refine ⟨x, y, n, m, ps, qs, rfl, hx.same s1, ho, hy.same s1, hp, fun l zs H2 s2 _ hz iz => ?_⟩
    have s12 := s1.trans s2
    walk_at "rd"
    refine ⟨x, y, n, m, ps, qs, rfl, hx.same s12, hy.same s12, by omega, by omega, fun l2 zs2 H3 s3 _ hz2 iz2 => ?_⟩
    have s13 := s12.trans s3
    have iA : IsAll H3 (zs ++ zs2) ((joinL n m ps qs).map prD) := by
      unfold joinL
      rw [List.map_append]
      exact (iz.same s3).append iz2
    have lA : zs.length + zs2.length < 64 := by
      have := iA.length
      rw [List.length_append, List.length_map] at this
      omega
    refine rd_cat (s3 _ _ hz) hz2 (small_ln (by omega)) fun pl hpl => ?_
    have s4 := Same.upd (o := .lst (zs ++ zs2)) hpl
    have s14 := s13.trans s4
    obtain ⟨a, b, xs, rfl, ea, eb, hxs⟩ := is_ord (hx.same s14)
    obtain ⟨c, d, ys, rfl, ec, ed, hys⟩ := is_ord (hy.same s14)
    walk_at "rd"
    refine rd_sortP (.inl upd_same) (iA.same s4) (join_nd ho hp) (fun p h => (join_in ho hp h).box hnm) fun l3 vs' rs hl3 ha hperm hpw => ?_
    have s5 := Same.upd (o := .lst vs') hl3
    have ev : upd (upd H3 pl (.lst (zs ++ zs2))) l3 (.lst vs') l3 = some (.lst vs') := upd_same
    walk_at "rd"
    intro tp htp
    have s6 := Same.upd (o := .tup vs') htp
    walk_at "rd"
    refine ⟨by show 2 ≤ sizeLine; decide, fun o ho' => ?_⟩
    have nto : tp ≠ o := ne_of_none upd_same ho'
    have s7 := Same.upd (o := .tup [V.int ((n : Int) + m), V.ref tp]) ho'
    refine q _ _ rs (((s14.trans s5).trans s6).trans s7) ?_ (ord_of (by omega) hnm (fun p h => join_in ho hp (hperm.mem_iff.mp h)) hpw)
    unfold ordD
    rw [show ((n + m : Nat) : Int) = (n : Int) + m by omega]
    exact .tup upd_same (.cons (.int _) (.cons (.tup (by rw [upd_ne nto, upd_same]) (((ha.same s5).same s6).same s7)) .nil))
theorem ok_laid (T : Txt K mg t) : FnOk P w K mg base (CXE P w) 7 t.a_laid t.d_laid ["one", "other"] (sp_two t) := by
  refine T.F_laid.okX sc_laid (fun vs H Q E h => ?_) (fun cdv A outer s H vs Q E hr h => ?_)
  · obtain ⟨x, y, d, e, rfl, _⟩ := h
    rfl
  · obtain ⟨x, y, d, e, rfl, hx, hok, hy, h⟩ := h
    refine ⟨_, (pss_cons (ps_expr (pe_call (ok_need_room T) (hr.mono (by decide)) rfl T.m_need_room T.F_need_room.kp T.b_need_room .nil passE (pa_cons (pv 0) (pa_cons (pv 1) pa_nil))))
      (pss_one (ps_ret (pe_tup (pa_cons (pe_op op_add (pe_ix (k_ix K) (pv 0) pe_int (fun _ _ => rfl)) (pe_ix (k_ix K) (pv 1) pe_int (fun _ _ => rfl))) (pa_cons (pe_callTy (k_tuple K) (by rfl) T.n_tuple bt_tuple (pa_cons (pe_call (ok_pairs_of_both T) (hr.mono (by decide)) rfl T.m_pairs_of_both T.F_pairs_of_both.kp T.b_pairs_of_both .nil pass0 (pa_cons (pv 0) (pa_cons (pv 1) pa_nil))) pa_nil)) pa_nil)))))), ?_⟩
    walk_at "rd"
    refine ⟨x, y, d, e, rfl, hx, hok, hy, ?_⟩
    rcases h with h | h | ⟨n, m, ps, qs, rfl, ho, rfl, hp, q1, q2⟩
    · exact .inl h
    · exact .inr (.inl h)
    refine .inr (.inr ⟨n, m, ps, qs, rfl, ho, rfl, hp, q1, fun hnm H1 s1 => ?_⟩)
    have q := q2 hnm
    have n1 := ho.lo
    obtain ⟨a, b, xs, rfl, ea, eb, hxs⟩ := is_ord (hx.same s1)
    obtain ⟨c, d, ys, rfl, ec, ed, hys⟩ := is_ord (hy.same s1)
    walk_at "rd"
    refine ⟨_, _, n, m, ps, qs, rfl, hx.same s1, ho, hy.same s1, hp, fun l zs H2 s2 _ hz iz => ?_⟩
    walk_at "rd"
    intro tp htp
    have s3 := Same.upd (o := .tup zs) htp
    walk_at "rd"
    refine ⟨by show 2 ≤ sizeLine; decide, fun o ho' => ?_⟩
    have nto : tp ≠ o := ne_of_none upd_same ho'
    have s4 := Same.upd (o := .tup [V.int ((n : Int) + m), V.ref tp]) ho'
    refine q _ _ _ (((s1.trans s2).trans s3).trans s4) ?_ (ord_of (by omega) hnm (fun p h => both_in ho hp h) (both_up ho hp))
    unfold ordD
    rw [show ((n + m : Nat) : Int) = (n : Int) + m by omega]
    exact .tup upd_same (.cons (.int _) (.cons (.tup (by rw [upd_ne nto, upd_same]) ((iz.same s3).same s4)) .nil))
end
end My

set_option Elab.async false
set_option linter.all false
set_option maxRecDepth 100000
set_option maxHeartbeats 4000000
namespace My
open PySem L2
section
variable {P : Program} {w : World} {K : PySem.W.Frag} {mg : Str → Option Value} {base : Heap} {t : Ad}
/-! which refusal it is -/
noncomputable def refD (j : Nat) : PyData := .tuple [.str "refused", .int j]
structure Which (K : PySem.W.Frag) (t : Ad) (C : Addr) (j : Nat) : Prop where
  lt : j < 13
  Z : ExcC K C
  v : PySem.W.kitOne K (.ref C) (.type "ValueError") = some true
  x : PySem.W.exmOne K (.ref C) (.ref t.c_OrderError) = some true
  k0 : PySem.W.kitOne K (.ref C) (.ref t.c_NoOrder) = some (j == 0)
  k1 : PySem.W.kitOne K (.ref C) (.ref t.c_NoNumbers) = some (j == 1)
  k2 : PySem.W.kitOne K (.ref C) (.ref t.c_NoStep) = some (j == 2)
  k3 : PySem.W.kitOne K (.ref C) (.ref t.c_NoThing) = some (j == 3)
  k4 : PySem.W.kitOne K (.ref C) (.ref t.c_NoCount) = some (j == 4)
  k5 : PySem.W.kitOne K (.ref C) (.ref t.c_NoTelling) = some (j == 5)
  k6 : PySem.W.kitOne K (.ref C) (.ref t.c_Barred) = some (j == 6)
  k7 : PySem.W.kitOne K (.ref C) (.ref t.c_Full) = some (j == 7)
  k8 : PySem.W.kitOne K (.ref C) (.ref t.c_Nothing) = some (j == 8)
  k9 : PySem.W.kitOne K (.ref C) (.ref t.c_NoNames) = some (j == 9)
  k10 : PySem.W.kitOne K (.ref C) (.ref t.c_NoRow) = some (j == 10)
  k11 : PySem.W.kitOne K (.ref C) (.ref t.c_NoSeveral) = some (j == 11)
  k12 : PySem.W.kitOne K (.ref C) (.ref t.c_NoText) = some (j == 12)
noncomputable def wL (j : Nat) : List Bool := [j == 0, j == 1, j == 2, j == 3, j == 4, j == 5, j == 6, j == 7, j == 8, j == 9, j == 10, j == 11, j == 12]
theorem wL_count {j : Nat} (h : j < 13) : (wL j).countP (· == true) = 1 := by
  have : ∀ j : Fin 13, (wL j.val).countP (· == true) = 1 := by decide
  exact this ⟨j, h⟩
theorem wL_at {j : Nat} (h : j < 13) : (wL j)[j]? = some true := by
  have : ∀ j : Fin 13, (wL j.val)[j.val]? = some true := by decide
  exact this ⟨j, h⟩
theorem wL_no {j : Nat} (h : j < 13) : ∀ m, m < j → (wL j)[m]? ≠ some true := by
  have : ∀ j m : Fin 13, m.val < j.val → (wL j.val)[m.val]? ≠ some true := by decide
  exact fun m hm => this ⟨j, h⟩ ⟨m, by omega⟩ hm
set_option genSizeOf false in
set_option genInjectivity false in
inductive sp_which (K : PySem.W.Frag) (t : Ad) (vs : List V) (H : Hp) (Q : VK) (zz3 : XK) : Prop where
  | mk (e C j : _) (zh0 : vs = [.ref e]) (zh1 : H e = some (excO e C)) (zh2 : Which K t C j) (zh3 : ∀ v H', Same H H' → Is H' v (refD j) → Q v H') : sp_which K t vs H Q zz3
theorem okH__law_which (T : Txt K mg t) : FnOkH P w K mg base 1 t.a__law_which t.d__law_which ["_law_e"] (sp_which K t) := by
  refine T.F__law_which.okH sc__law_which (fun vs H Q E h => ?_) (fun cdv A outer s H vs Q hr h => ?_)
  · obtain ⟨e, C, j, rfl, _⟩ := h
    rfl
  · obtain ⟨e, C, j, rfl, he, W, q⟩ := h
    refine ⟨_, (pss_cons (ps_set (i := 1) sc__law_which.nd rfl (Or.inl rfl) (pe_lst (pa_cons (pe_callB (k_isX K) (by rfl) T.n_isinstance bt_isinstance (pa_cons (pv 0) (pa_cons (pe_glob (v := .ref t.c_NoOrder) rfl T.g_NoOrder rfl) pa_nil))) (pa_cons (pe_callB (k_isX K) (by rfl) T.n_isinstance bt_isinstance (pa_cons (pv 0) (pa_cons (pe_glob (v := .ref t.c_NoNumbers) rfl T.g_NoNumbers rfl) pa_nil))) (pa_cons (pe_callB (k_isX K) (by rfl) T.n_isinstance bt_isinstance (pa_cons (pv 0) (pa_cons (pe_glob (v := .ref t.c_NoStep) rfl T.g_NoStep rfl) pa_nil))) (pa_cons (pe_callB (k_isX K) (by rfl) T.n_isinstance bt_isinstance (pa_cons (pv 0) (pa_cons (pe_glob (v := .ref t.c_NoThing) rfl T.g_NoThing rfl) pa_nil))) pa_nil))))))
      (pss_cons (ps_expr (k_bm K PySem.F.plainAttrs_list PySem.F.slot_list_extend PySem.F.type_list_extend mt_extend (pv 1) (pa_cons (pe_lst (pa_cons (pe_callB (k_isX K) (by rfl) T.n_isinstance bt_isinstance (pa_cons (pv 0) (pa_cons (pe_glob (v := .ref t.c_NoCount) rfl T.g_NoCount rfl) pa_nil))) (pa_cons (pe_callB (k_isX K) (by rfl) T.n_isinstance bt_isinstance (pa_cons (pv 0) (pa_cons (pe_glob (v := .ref t.c_NoTelling) rfl T.g_NoTelling rfl) pa_nil))) (pa_cons (pe_callB (k_isX K) (by rfl) T.n_isinstance bt_isinstance (pa_cons (pv 0) (pa_cons (pe_glob (v := .ref t.c_Barred) rfl T.g_Barred rfl) pa_nil))) (pa_cons (pe_callB (k_isX K) (by rfl) T.n_isinstance bt_isinstance (pa_cons (pv 0) (pa_cons (pe_glob (v := .ref t.c_Full) rfl T.g_Full rfl) pa_nil))) pa_nil))))) pa_nil)))
      (pss_cons (ps_expr (k_bm K PySem.F.plainAttrs_list PySem.F.slot_list_extend PySem.F.type_list_extend mt_extend (pv 1) (pa_cons (pe_lst (pa_cons (pe_callB (k_isX K) (by rfl) T.n_isinstance bt_isinstance (pa_cons (pv 0) (pa_cons (pe_glob (v := .ref t.c_Nothing) rfl T.g_Nothing rfl) pa_nil))) (pa_cons (pe_callB (k_isX K) (by rfl) T.n_isinstance bt_isinstance (pa_cons (pv 0) (pa_cons (pe_glob (v := .ref t.c_NoNames) rfl T.g_NoNames rfl) pa_nil))) (pa_cons (pe_callB (k_isX K) (by rfl) T.n_isinstance bt_isinstance (pa_cons (pv 0) (pa_cons (pe_glob (v := .ref t.c_NoRow) rfl T.g_NoRow rfl) pa_nil))) (pa_cons (pe_callB (k_isX K) (by rfl) T.n_isinstance bt_isinstance (pa_cons (pv 0) (pa_cons (pe_glob (v := .ref t.c_NoSeveral) rfl T.g_NoSeveral rfl) pa_nil))) pa_nil))))) pa_nil)))
      (pss_cons (ps_expr (k_bm K PySem.F.plainAttrs_list PySem.F.slot_list_append PySem.F.type_list_append mt_append (pv 1) (pa_cons (pe_callB (k_isX K) (by rfl) T.n_isinstance bt_isinstance (pa_cons (pv 0) (pa_cons (pe_glob (v := .ref t.c_NoText) rfl T.g_NoText rfl) pa_nil))) pa_nil)))
      (pss_cons (ps_if (PW.pt (pw_or (pt_cmpR (op_neD hr.units) (k_bm K PySem.F.plainAttrs_list PySem.F.slot_list_count PySem.F.type_list_count mt_countB (pv 1) (pa_cons pe_bl pa_nil)) pe_int (nomark _)) (pw_or1 (pt_not (pt_val (pe_callB (k_isX K) (by rfl) T.n_isinstance bt_isinstance (pa_cons (pv 0) (pa_cons (pe_bltn (v := .ty "ValueError") rfl T.n_ValueError bt_ValueError rfl) pa_nil)))))))) (pss_one (ps_ret (pe_tup (pa_cons pe_str (pa_cons (pe_un un_neg pe_int) pa_nil))))) pss_nil)
      (pss_one (ps_ret (pe_tup (pa_cons pe_str (pa_cons (k_bm K PySem.F.plainAttrs_list PySem.F.slot_list_index PySem.F.type_list_index mt_indexB (pv 1) (pa_cons pe_bl pa_nil)) pa_nil)))))))))), ?_⟩
    walk_at "rd"
    refine rd_isXo he W.Z W.k0 ?_
    walk_at "rd"
    refine rd_isXo he W.Z W.k1 ?_
    walk_at "rd"
    refine rd_isXo he W.Z W.k2 ?_
    walk_at "rd"
    refine rd_isXo he W.Z W.k3 ?_
    walk_at "rd"
    refine ⟨by show 4 ≤ sizeLine; decide, fun l hl => ?_⟩
    have nle : e ≠ l := ne_of_none he hl
    have s1 := Same.upd (o := .lst [V.bl (j == 0), V.bl (j == 1), V.bl (j == 2), V.bl (j == 3)]) hl
    have el1 : upd H l (.lst [V.bl (j == 0), V.bl (j == 1), V.bl (j == 2), V.bl (j == 3)]) l = some (.lst [V.bl (j == 0), V.bl (j == 1), V.bl (j == 2), V.bl (j == 3)]) := upd_same
    have he1 := s1 _ _ he
    generalize upd H l (.lst [V.bl (j == 0), V.bl (j == 1), V.bl (j == 2), V.bl (j == 3)]) = H1 at s1 el1 he1
    walk_at "rd"
    refine ⟨tyV_lst el1, ?_⟩
    walk_at "rd"
    refine rd_isXo he1 W.Z W.k4 ?_
    walk_at "rd"
    refine rd_isXo he1 W.Z W.k5 ?_
    walk_at "rd"
    refine rd_isXo he1 W.Z W.k6 ?_
    walk_at "rd"
    refine rd_isXo he1 W.Z W.k7 ?_
    walk_at "rd"
    refine ⟨by show 4 ≤ sizeLine; decide, fun m hm => ?_⟩
    have s2 := Same.upd (o := .lst [V.bl (j == 4), V.bl (j == 5), V.bl (j == 6), V.bl (j == 7)]) hm
    walk_at "rd"
    refine rd_extend (s2 _ _ el1) upd_same (by show 8 ≤ sizeLine; decide) ?_
    have s3 : ∀ b u, H b = some u → upd (upd H1 m (.lst [V.bl (j == 4), V.bl (j == 5), V.bl (j == 6), V.bl (j == 7)])) l (.lst ([V.bl (j == 0), V.bl (j == 1), V.bl (j == 2), V.bl (j == 3)] ++ [V.bl (j == 4), V.bl (j == 5), V.bl (j == 6), V.bl (j == 7)])) b = some u := fun b u eb => by
      rw [upd_ne (ne_of_none eb hl)]
      exact s2 _ _ (s1 _ _ eb)
    have el2 : upd (upd H1 m (.lst [V.bl (j == 4), V.bl (j == 5), V.bl (j == 6), V.bl (j == 7)])) l (.lst ([V.bl (j == 0), V.bl (j == 1), V.bl (j == 2), V.bl (j == 3)] ++ [V.bl (j == 4), V.bl (j == 5), V.bl (j == 6), V.bl (j == 7)])) l = some (.lst ([V.bl (j == 0), V.bl (j == 1), V.bl (j == 2), V.bl (j == 3)] ++ [V.bl (j == 4), V.bl (j == 5), V.bl (j == 6), V.bl (j == 7)])) := upd_same
    generalize upd (upd H1 m (.lst [V.bl (j == 4), V.bl (j == 5), V.bl (j == 6), V.bl (j == 7)])) l (.lst ([V.bl (j == 0), V.bl (j == 1), V.bl (j == 2), V.bl (j == 3)] ++ [V.bl (j == 4), V.bl (j == 5), V.bl (j == 6), V.bl (j == 7)])) = H2 at s3 el2
    have he2 := s3 _ _ he
    walk_at "rd"
    refine ⟨tyV_lst el2, ?_⟩
    walk_at "rd"
    refine rd_isXo he2 W.Z W.k8 ?_
    walk_at "rd"
    refine rd_isXo he2 W.Z W.k9 ?_
    walk_at "rd"
    refine rd_isXo he2 W.Z W.k10 ?_
    walk_at "rd"
    refine rd_isXo he2 W.Z W.k11 ?_
    walk_at "rd"
    refine ⟨by show 4 ≤ sizeLine; decide, fun m2 hm2 => ?_⟩
    have s4 := Same.upd (o := .lst [V.bl (j == 8), V.bl (j == 9), V.bl (j == 10), V.bl (j == 11)]) hm2
    walk_at "rd"
    refine rd_extend (s4 _ _ el2) upd_same (by show 12 ≤ sizeLine; decide) ?_
    have s5 : ∀ b u, H b = some u → upd (upd H2 m2 (.lst [V.bl (j == 8), V.bl (j == 9), V.bl (j == 10), V.bl (j == 11)])) l (.lst (([V.bl (j == 0), V.bl (j == 1), V.bl (j == 2), V.bl (j == 3)] ++ [V.bl (j == 4), V.bl (j == 5), V.bl (j == 6), V.bl (j == 7)]) ++ [V.bl (j == 8), V.bl (j == 9), V.bl (j == 10), V.bl (j == 11)])) b = some u := fun b u eb => by
      rw [upd_ne (ne_of_none eb hl)]
      exact s4 _ _ (s3 _ _ eb)
    have el3 : upd (upd H2 m2 (.lst [V.bl (j == 8), V.bl (j == 9), V.bl (j == 10), V.bl (j == 11)])) l (.lst (([V.bl (j == 0), V.bl (j == 1), V.bl (j == 2), V.bl (j == 3)] ++ [V.bl (j == 4), V.bl (j == 5), V.bl (j == 6), V.bl (j == 7)]) ++ [V.bl (j == 8), V.bl (j == 9), V.bl (j == 10), V.bl (j == 11)])) l = some (.lst (([V.bl (j == 0), V.bl (j == 1), V.bl (j == 2), V.bl (j == 3)] ++ [V.bl (j == 4), V.bl (j == 5), V.bl (j == 6), V.bl (j == 7)]) ++ [V.bl (j == 8), V.bl (j == 9), V.bl (j == 10), V.bl (j == 11)])) := upd_same
    generalize upd (upd H2 m2 (.lst [V.bl (j == 8), V.bl (j == 9), V.bl (j == 10), V.bl (j == 11)])) l (.lst (([V.bl (j == 0), V.bl (j == 1), V.bl (j == 2), V.bl (j == 3)] ++ [V.bl (j == 4), V.bl (j == 5), V.bl (j == 6), V.bl (j == 7)]) ++ [V.bl (j == 8), V.bl (j == 9), V.bl (j == 10), V.bl (j == 11)])) = H3 at s5 el3
    have he3 := s5 _ _ he
    walk_at "rd"
    refine ⟨tyV_lst el3, ?_⟩
    walk_at "rd"
    refine rd_isXo he3 W.Z W.k12 ?_
    walk_at "rd"
    refine rd_append el3 (by show 12 < sizeLine; decide) ?_
    have s6 : Same H (upd H3 l (.lst ((([V.bl (j == 0), V.bl (j == 1), V.bl (j == 2), V.bl (j == 3)] ++ [V.bl (j == 4), V.bl (j == 5), V.bl (j == 6), V.bl (j == 7)]) ++ [V.bl (j == 8), V.bl (j == 9), V.bl (j == 10), V.bl (j == 11)]) ++ [V.bl (j == 12)]))) := fun b u eb => by
      rw [upd_ne (ne_of_none eb hl)]
      exact s5 _ _ eb
    have el4 : upd H3 l (.lst ((([V.bl (j == 0), V.bl (j == 1), V.bl (j == 2), V.bl (j == 3)] ++ [V.bl (j == 4), V.bl (j == 5), V.bl (j == 6), V.bl (j == 7)]) ++ [V.bl (j == 8), V.bl (j == 9), V.bl (j == 10), V.bl (j == 11)]) ++ [V.bl (j == 12)])) l = some (.lst ((wL j).map V.bl)) := upd_same
    generalize upd H3 l (.lst ((([V.bl (j == 0), V.bl (j == 1), V.bl (j == 2), V.bl (j == 3)] ++ [V.bl (j == 4), V.bl (j == 5), V.bl (j == 6), V.bl (j == 7)]) ++ [V.bl (j == 8), V.bl (j == 9), V.bl (j == 10), V.bl (j == 11)]) ++ [V.bl (j == 12)])) = H4 at s6 el4
    have he4 := s6 _ _ he
    walk_at "rd"
    refine ⟨tyV_lst el4, ?_⟩
    walk_at "rd"
    refine rd_countB el4 ?_
    rw [wL_count W.lt]
    walk_at "rd"
    refine ifF rfl ?_
    walk_at "rd"
    refine rd_isXt he4 W.Z W.v ?_
    walk_at "rd"
    refine ⟨tyV_lst el4, ?_⟩
    walk_at "rd"
    refine rd_indexB el4 (wL_at W.lt) (wL_no W.lt) ?_
    refine ⟨by show 2 ≤ sizeLine; decide, fun p hp => ?_⟩
    exact q _ _ (s6.trans (Same.upd hp)) (.tup upd_same (.cons (.str _) (.cons (.int _) .nil)))
end
end My

set_option Elab.async false
set_option linter.all false
set_option maxRecDepth 100000
set_option maxHeartbeats 4000000
namespace My
open PySem L2
section
variable {P : Program} {w : World} {K : PySem.W.Frag} {mg : Str → Option Value} {base : Heap} {t : Ad}
/-! what is no order -/
noncomputable def okB (d : PyData) : Bool := match d with | .tuple [_, .tuple ds] => decide (ds.length ≤ 1000) | _ => true
theorem okB_ok {d : PyData} (h : okB d = true) : okOrd d := by
  rintro m ds rfl
  exact of_decide_eq_true h
theorem bt_all3 {α : Type} {p : α → Prop} {l1 l2 l3 : List α} (h1 : ∀ d ∈ l1, p d) (h2 : ∀ d ∈ l2, p d) (h3 : ∀ d ∈ l3, p d) : ∀ d ∈ l1 ++ l2 ++ l3, p d := fun d hd => by
  rcases List.mem_append.mp hd with hd | hd
  · rcases List.mem_append.mp hd with hd | hd
    · exact h1 d hd
    · exact h2 d hd
  · exact h3 d hd
set_option genSizeOf false in
set_option genInjectivity false in
inductive sp_odd (K : PySem.W.Frag) (vs : List V) (H : Hp) (Q : VK) (zz3 : XK) : Prop where
  | mk (a ns tw ts : _) (zh0 : vs = [.ref a, .ref tw]) (zh1 : Scr K H a ns) (zh2 : H tw = some (.lst ts)) (zh3 : ts.length ≤ 500) (zh4 : ∀ v H' ts' d, SameT tw H H' → H' tw = some (.lst ts') → ts'.length = ts.length + 1 → Fresh H H' v d → orderB d = false → okOrd d → Q v H') : sp_odd K vs H Q zz3
theorem ok__law_odd (T : Txt K mg t) : FnOk P w K mg base CX0 5 t.a__law_odd t.d__law_odd ["_law_script", "_law_town"] (sp_odd K) := by
  refine T.F__law_odd.ok sc__law_odd (fun vs H Q E h => ?_) (fun cdv A outer s H vs Q E hr h => ?_)
  · obtain ⟨a, ns, tw, ts, rfl, _⟩ := h
    rfl
  · obtain ⟨a, ns, tw, ts, rfl, hs, ht, hl, q⟩ := h
    refine' ⟨_, ?zp, ?zq⟩
    case zp =>
      refine' pss_cons ?za ?zb
      case za =>
        refine' ps_set (i := 2) ?k1 ?k2 ?k3 ?k4
        case k1 => exact sc__law_odd.nd
        case k2 => exact rfl
        case k3 => exact Or.inl rfl
        case k4 =>
          refine' pe_lst ?kp
          case kp =>
            refine' Lit.pa ?kq
            case kq => exact (.non (.int (.str (.tup (.int (.tup .nil (by decide) .nil)) (by decide) (.tup (.int (.tup .nil (by decide) .nil)) (by decide) (.tup (.int (.lst (.tup (.int (.int .nil)) (by decide) .nil) (by decide) .nil)) (by decide) (.lst (.int (.tup (.tup (.int (.int .nil)) (by decide) .nil) (by decide) .nil)) (by decide) (.tup (.int (.tup (.tup (.int (.int .nil)) (by decide) .nil) (by decide) .nil)) (by decide) (.tup (.int (.tup (.tup (.int (.int .nil)) (by decide) .nil) (by decide) .nil)) (by decide) .nil)))))))))
      case zb =>
        refine' pss_cons ?za ?zb
        case za =>
          refine' ps_set (i := 2) ?k1 ?k2 ?k3 ?k4
          case k1 => exact sc__law_odd.nd
          case k2 => exact rfl
          case k3 => exact Or.inl rfl
          case k4 =>
            refine' pe_op ?zo ?zl ?zr
            case zo => exact op_cat
            case zl => exact (pv 2)
            case zr =>
              refine' pe_lst ?kp
              case kp =>
                refine' Lit.pa ?kq
                case kq => exact (.tup (.int (.tup (.tup (.int (.int .nil)) (by decide) (.tup (.int (.int .nil)) (by decide) .nil)) (by decide) .nil)) (by decide) (.tup (.int (.tup (.tup (.int (.int .nil)) (by decide) (.tup (.int (.int .nil)) (by decide) .nil)) (by decide) .nil)) (by decide) (.tup (.bl (.tup .nil (by decide) .nil)) (by decide) (.tup (.int (.tup (.tup (.int (.bl .nil)) (by decide) .nil) (by decide) .nil)) (by decide) (.tup (.int (.tup (.int (.int .nil)) (by decide) .nil)) (by decide) (.tup (.int .nil) (by decide) .nil))))))
        case zb =>
          refine' pss_cons ?za ?zb
          case za =>
            refine' ps_set (i := 2) ?k1 ?k2 ?k3 ?k4
            case k1 => exact sc__law_odd.nd
            case k2 => exact rfl
            case k3 => exact Or.inl rfl
            case k4 =>
              refine' pe_op ?zo ?zl ?zr
              case zo => exact op_cat
              case zl => exact (pv 2)
              case zr =>
                refine' pe_lst ?kp
                case kp =>
                  refine' Lit.pa ?kq
                  case kq => exact (.tup (.int (.tup (.tup (.int (.int (.int .nil))) (by decide) .nil) (by decide) .nil)) (by decide) (.tup (.int (.tup (.tup (.int (.non .nil)) (by decide) .nil) (by decide) .nil)) (by decide) (.tup (.str (.tup .nil (by decide) .nil)) (by decide) (.tup (.int (.tup (.tup (.neg (.int .nil)) (by decide) .nil) (by decide) .nil)) (by decide) (.tup (.int (.tup .nil (by decide) (.tup .nil (by decide) .nil))) (by decide) .nil)))))
          case zb =>
            refine' pss_one ?kr
            case kr =>
              refine' ps_ret ?kt
              case kt =>
                exact (pe_call (ok__law_pick T) (hr.mono (by decide)) rfl T.m__law_pick T.F__law_pick.kp T.b__law_pick .nil pass0 (pa_cons (pv 0) (pa_cons (pv 1) (pa_cons (pv 2) pa_nil))))
    case zq =>
      walk_at "rd"
      refine rd_lits fun vs1 H1 s1 f1 => ?_
      have n1 := f1.length
      refine ⟨by rw [n1]; decide, fun l1 hl1 => ?_⟩
      have s2 := Same.upd (o := .lst vs1) hl1
      have e1 : upd H1 l1 (.lst vs1) l1 = some (.lst vs1) := upd_same
      have f1' := f1.mono (Same.refl _) s2
      generalize upd H1 l1 (.lst vs1) = H2 at s2 e1 f1'
      walk_at "rd"
      refine rd_lits fun vs2 H3 s3 f2 => ?_
      have n2 := f2.length
      refine ⟨by rw [n2]; decide, fun l2 hl2 => ?_⟩
      have s4 := Same.upd (o := .lst vs2) hl2
      have e2 : upd H3 l2 (.lst vs2) l2 = some (.lst vs2) := upd_same
      have f2' := f2.mono (s1.trans s2) s4
      generalize upd H3 l2 (.lst vs2) = H4 at s4 e2 f2'
      refine rd_cat (s4 _ _ (s3 _ _ e1)) e2 (by rw [n1, n2]; decide) fun p1 hp1 => ?_
      have s5 := Same.upd (o := .lst (vs1 ++ vs2)) hp1
      have e3 : upd H4 p1 (.lst (vs1 ++ vs2)) p1 = some (.lst (vs1 ++ vs2)) := upd_same
      have f12 := (f1'.mono (Same.refl _) ((s3.trans s4).trans s5)).append (f2'.mono (Same.refl _) s5)
      generalize upd H4 p1 (.lst (vs1 ++ vs2)) = H5 at s5 e3 f12
      walk_at "rd"
      refine rd_lits fun vs3 H6 s6 f3 => ?_
      have n3 := f3.length
      refine ⟨by rw [n3]; decide, fun l3 hl3 => ?_⟩
      have s7 := Same.upd (o := .lst vs3) hl3
      have e4 : upd H6 l3 (.lst vs3) l3 = some (.lst vs3) := upd_same
      have s05 := (((s1.trans s2).trans s3).trans s4).trans s5
      have f3' := f3.mono s05 s7
      generalize upd H6 l3 (.lst vs3) = H7 at s7 e4 f3'
      refine rd_cat (s7 _ _ (s6 _ _ e3)) e4 (by rw [List.length_append, n1, n2, n3]; decide) fun p2 hp2 => ?_
      have s8 := Same.upd (o := .lst (vs1 ++ vs2 ++ vs3)) hp2
      have e5 : upd H7 p2 (.lst (vs1 ++ vs2 ++ vs3)) p2 = some (.lst (vs1 ++ vs2 ++ vs3)) := upd_same
      have fA := (f12.mono (Same.refl _) ((s6.trans s7).trans s8)).append (f3'.mono (Same.refl _) s8)
      have s08 := ((s05.trans s6).trans s7).trans s8
      have np : p2 ≠ tw := fun z => by rw [z, ((s05.trans s6).trans s7) _ _ ht] at hp2; cases hp2
      generalize upd H7 p2 (.lst (vs1 ++ vs2 ++ vs3)) = H8 at s8 e5 fA s08
      walk_at "rd"
      refine ⟨a, ns, tw, ts, p2, _, rfl, hs.same s08, s08 _ _ ht, hl, e5, np, by rw [List.length_append, n3]; exact Nat.lt_of_lt_of_le (by decide) (Nat.le_add_left _ _), fun v H9 ts' s9 ht9 hl9 hv => ?_⟩
      obtain ⟨d, hd, fd⟩ := fA.mem hv
      have hA := bt_all3 (p := fun d => orderB d = false ∧ okB d = true) (by decide) (by decide) (by decide) d hd
      refine q v H9 ts' d (fun b u eb nb => s9 _ _ (s08 _ _ eb) nb) ht9 hl9 (fun J k => fd J fun b u eb ub => k b u eb (s9 _ _ ub fun z => ?_)) hA.1 (okB_ok hA.2)
      rw [z, ht] at eb
      cases eb
end
end My

set_option Elab.async false
set_option linter.all false
set_option maxRecDepth 100000
set_option maxHeartbeats 4000000
namespace My
open PySem L2
section
variable {P : Program} {w : World} {K : PySem.W.Frag} {mg : Str → Option Value} {base : Heap} {t : Ad}
theorem which_order (T : Txt K mg t) : Which K t t.c_NoOrder 0 := ⟨by decide, T.Z_NoOrder, T.v_NoOrder, T.x_NoOrder, kit_yes, T.q_NoOrder_NoNumbers, T.q_NoOrder_NoStep, T.q_NoOrder_NoThing, T.q_NoOrder_NoCount, T.q_NoOrder_NoTelling, T.q_NoOrder_Barred, T.q_NoOrder_Full, T.q_NoOrder_Nothing, T.q_NoOrder_NoNames, T.q_NoOrder_NoRow, T.q_NoOrder_NoSeveral, T.q_NoOrder_NoText⟩
theorem which_thing (T : Txt K mg t) : Which K t t.c_NoThing 3 := ⟨by decide, T.Z_NoThing, T.v_NoThing, T.x_NoThing, T.q_NoThing_NoOrder, T.q_NoThing_NoNumbers, T.q_NoThing_NoStep, kit_yes, T.q_NoThing_NoCount, T.q_NoThing_NoTelling, T.q_NoThing_Barred, T.q_NoThing_Full, T.q_NoThing_Nothing, T.q_NoThing_NoNames, T.q_NoThing_NoRow, T.q_NoThing_NoSeveral, T.q_NoThing_NoText⟩
theorem which_full (T : Txt K mg t) : Which K t t.c_Full 7 := ⟨by decide, T.Z_Full, T.v_Full, T.x_Full, T.q_Full_NoOrder, T.q_Full_NoNumbers, T.q_Full_NoStep, T.q_Full_NoThing, T.q_Full_NoCount, T.q_Full_NoTelling, T.q_Full_Barred, kit_yes, T.q_Full_Nothing, T.q_Full_NoNames, T.q_Full_NoRow, T.q_Full_NoSeveral, T.q_Full_NoText⟩
theorem which_names (T : Txt K mg t) : Which K t t.c_NoNames 9 := ⟨by decide, T.Z_NoNames, T.v_NoNames, T.x_NoNames, T.q_NoNames_NoOrder, T.q_NoNames_NoNumbers, T.q_NoNames_NoStep, T.q_NoNames_NoThing, T.q_NoNames_NoCount, T.q_NoNames_NoTelling, T.q_NoNames_Barred, T.q_NoNames_Full, T.q_NoNames_Nothing, kit_yes, T.q_NoNames_NoRow, T.q_NoNames_NoSeveral, T.q_NoNames_NoText⟩
/-- refused as this one -/
noncomputable def refs (H : Hp) (Q : VK) (j : Nat) : Prop := ∀ v H', Same H H' → Is H' v (refD j) → Q v H'
set_option genSizeOf false in
set_option genInjectivity false in
inductive sp_ask (K : PySem.W.Frag) (t : Ad) (vs : List V) (H : Hp) (Q : VK) (zz3 : XK) : Prop where
  | mk (k x y d e : _) (zh0 : vs = [.int k, x, y]) (zh1 : Is H x d) (zh2 : okOrd d) (zh3 : Is H y e) (zh4 : ((orderB d = false ∧ 0 ≤ k ∧ k ≤ 4 ∧ refs H Q 0) ∨ ((k = 3 ∨ k = 4) ∧ orderB d = true ∧ okOrd e ∧ orderB e = false ∧ refs H Q 0) ∨ (k = 1 ∧ ∃ n ps, d = ordD n ps ∧ Ord n ps ∧ NoNm e n ∧ refs H Q 9) ∨     (k = 2 ∧ ∃ n ps, d = ordD n ps ∧ Ord n ps ∧ wholeB e 0 ((n : Int) - 1) = false ∧ refs H Q 3) ∨     ((k = 3 ∨ k = 4) ∧ ∃ n m ps qs, d = ordD n ps ∧ Ord n ps ∧ e = ordD m qs ∧ Ord m qs ∧ (8 < n + m → refs H Q 7) ∧ (n + m ≤ 8 → ∀ z H' rs, Same H H' → Is H' z (ordD (n + m) rs) → Q z H')))) : sp_ask K t vs H Q zz3
theorem ok__law_ask (T : Txt K mg t) : FnOk P w K mg base CX0 8 t.a__law_ask t.d__law_ask ["_law_what", "_law_one", "_law_other"] (sp_ask K t) := by
  refine T.F__law_ask.ok sc__law_ask (fun vs H Q E h => ?_) (fun cdv A outer s H vs Q E hr h => ?_)
  · obtain ⟨k, x, y, d, e, rfl, _⟩ := h
    rfl
  · obtain ⟨k, x, y, d, e, rfl, hx, hok, hy, h⟩ := h
    refine ⟨_, (pss_one (ps_try (i := 3) rfl sc__law_ask.nd rfl rfl rfl rfl rfl rfl T.g_OrderError (fun pn E1 Eb hp => (pss_cons (ps_if (pt_cmpR (op_eqD hr.units) (pv 0) pe_int (nomark _)) (pss_one (ps_ret (pe_call (ok_turned T) (hr.mono (by decide)) rfl T.m_turned T.F_turned.kp T.b_turned .nil hp (pa_cons (pv 1) pa_nil)))) pss_nil)
      (pss_one (ps_ret (pe_callS (.cons (ok_renamed T) (hr.mono (by decide)) T.F_renamed.kp T.b_renamed hp (.cons (ok_without T) (hr.mono (by decide)) T.F_without.kp T.b_without hp (.cons (ok_joined T) (hr.mono (by decide)) T.F_joined.kp T.b_joined hp (.cons (ok_laid T) (hr.mono (by decide)) T.F_laid.kp T.b_laid hp .nil)))) (pe_ix (k_ix K) (pe_lst (pa_cons (pe_glob (v := .ref t.a_renamed) rfl T.m_renamed rfl) (pa_cons (pe_glob (v := .ref t.a_without) rfl T.m_without rfl) (pa_cons (pe_glob (v := .ref t.a_joined) rfl T.m_joined rfl) (pa_cons (pe_glob (v := .ref t.a_laid) rfl T.m_laid rfl) pa_nil))))) (pe_op op_sub (pv 0) pe_int) (fun _ _ => rfl)) (pa_cons (pv 1) (pa_cons (pv 2) pa_nil))))))) (fun ex => (pss_one (ps_ret (pe_callH (okH__law_which T) ((hr.mono (by decide)).mark _) rfl T.m__law_which T.F__law_which.kp T.b__law_which (pa_cons (pv 3) pa_nil))))))), ?_⟩
    rcases h with ⟨hd, k0, k4, q⟩ | ⟨hk, hd, ke, he, q⟩ | ⟨rfl, n, ps, rfl, ho, N, q⟩ | ⟨rfl, n, ps, rfl, ho, N, q⟩ | ⟨hk, n, m, ps, qs, rfl, ho, rfl, hp, q1, q2⟩
    · have hk : k = 0 ∨ k = 1 ∨ k = 2 ∨ k = 3 ∨ k = 4 := by omega
      rcases hk with rfl | rfl | rfl | rfl | rfl
      · walk_at "rd"
        refine ifT rfl ?_
        walk_at "rd"
        refine ⟨x, d, rfl, hx, hok, hd, fun H1 s1 => ?_⟩
        refine ⟨_, rfl, T.x_NoOrder, fun ex σ hex hi => ?_⟩
        walk_at "rd"
        refine rd_var (List.getElem?_set_self hi) ?_
        walk_at "rd"
        exact ⟨ex, _, 0, rfl, upd_same, which_order T, fun v H2 s2 iv => q v H2 (((s1).trans (Same.upd hex)).trans s2) iv⟩
      · walk_at "rd"
        refine ifF rfl ?_
        walk_at "rd"
        refine rd_callS ?_
        walk_at "rd"
        refine ⟨by show 4 ≤ sizeLine; decide, fun l hl => ?_⟩
        have s0 := Same.upd (o := .lst [V.ref t.a_renamed, V.ref t.a_without, V.ref t.a_joined, V.ref t.a_laid]) hl
        have el : upd H l (.lst [V.ref t.a_renamed, V.ref t.a_without, V.ref t.a_joined, V.ref t.a_laid]) l = some (.lst [V.ref t.a_renamed, V.ref t.a_without, V.ref t.a_joined, V.ref t.a_laid]) := upd_same
        generalize upd H l (.lst [V.ref t.a_renamed, V.ref t.a_without, V.ref t.a_joined, V.ref t.a_laid]) = H0 at s0 el
        walk_at "rd"
        refine ⟨0, _, _, rfl, rfl, ?_⟩
        walk_at "rd"
        refine ⟨x, y, d, e, rfl, hx.same s0, hok, hy.same s0, .inl ⟨hd, fun H1 s1 => ?_⟩⟩
        refine ⟨_, rfl, T.x_NoOrder, fun ex σ hex hi => ?_⟩
        walk_at "rd"
        refine rd_var (List.getElem?_set_self hi) ?_
        walk_at "rd"
        exact ⟨ex, _, 0, rfl, upd_same, which_order T, fun v H2 s2 iv => q v H2 (((s0.trans s1).trans (Same.upd hex)).trans s2) iv⟩
      · walk_at "rd"
        refine ifF rfl ?_
        walk_at "rd"
        refine rd_callS ?_
        walk_at "rd"
        refine ⟨by show 4 ≤ sizeLine; decide, fun l hl => ?_⟩
        have s0 := Same.upd (o := .lst [V.ref t.a_renamed, V.ref t.a_without, V.ref t.a_joined, V.ref t.a_laid]) hl
        have el : upd H l (.lst [V.ref t.a_renamed, V.ref t.a_without, V.ref t.a_joined, V.ref t.a_laid]) l = some (.lst [V.ref t.a_renamed, V.ref t.a_without, V.ref t.a_joined, V.ref t.a_laid]) := upd_same
        generalize upd H l (.lst [V.ref t.a_renamed, V.ref t.a_without, V.ref t.a_joined, V.ref t.a_laid]) = H0 at s0 el
        walk_at "rd"
        refine ⟨1, _, _, rfl, rfl, ?_⟩
        walk_at "rd"
        refine ⟨x, y, d, e, rfl, hx.same s0, hok, hy.same s0, .inl ⟨hd, fun H1 s1 => ?_⟩⟩
        refine ⟨_, rfl, T.x_NoOrder, fun ex σ hex hi => ?_⟩
        walk_at "rd"
        refine rd_var (List.getElem?_set_self hi) ?_
        walk_at "rd"
        exact ⟨ex, _, 0, rfl, upd_same, which_order T, fun v H2 s2 iv => q v H2 (((s0.trans s1).trans (Same.upd hex)).trans s2) iv⟩
      · walk_at "rd"
        refine ifF rfl ?_
        walk_at "rd"
        refine rd_callS ?_
        walk_at "rd"
        refine ⟨by show 4 ≤ sizeLine; decide, fun l hl => ?_⟩
        have s0 := Same.upd (o := .lst [V.ref t.a_renamed, V.ref t.a_without, V.ref t.a_joined, V.ref t.a_laid]) hl
        have el : upd H l (.lst [V.ref t.a_renamed, V.ref t.a_without, V.ref t.a_joined, V.ref t.a_laid]) l = some (.lst [V.ref t.a_renamed, V.ref t.a_without, V.ref t.a_joined, V.ref t.a_laid]) := upd_same
        generalize upd H l (.lst [V.ref t.a_renamed, V.ref t.a_without, V.ref t.a_joined, V.ref t.a_laid]) = H0 at s0 el
        walk_at "rd"
        refine ⟨2, _, _, rfl, rfl, ?_⟩
        walk_at "rd"
        refine ⟨x, y, d, e, rfl, hx.same s0, hok, hy.same s0, .inl ⟨hd, fun H1 s1 => ?_⟩⟩
        refine ⟨_, rfl, T.x_NoOrder, fun ex σ hex hi => ?_⟩
        walk_at "rd"
        refine rd_var (List.getElem?_set_self hi) ?_
        walk_at "rd"
        exact ⟨ex, _, 0, rfl, upd_same, which_order T, fun v H2 s2 iv => q v H2 (((s0.trans s1).trans (Same.upd hex)).trans s2) iv⟩
      · walk_at "rd"
        refine ifF rfl ?_
        walk_at "rd"
        refine rd_callS ?_
        walk_at "rd"
        refine ⟨by show 4 ≤ sizeLine; decide, fun l hl => ?_⟩
        have s0 := Same.upd (o := .lst [V.ref t.a_renamed, V.ref t.a_without, V.ref t.a_joined, V.ref t.a_laid]) hl
        have el : upd H l (.lst [V.ref t.a_renamed, V.ref t.a_without, V.ref t.a_joined, V.ref t.a_laid]) l = some (.lst [V.ref t.a_renamed, V.ref t.a_without, V.ref t.a_joined, V.ref t.a_laid]) := upd_same
        generalize upd H l (.lst [V.ref t.a_renamed, V.ref t.a_without, V.ref t.a_joined, V.ref t.a_laid]) = H0 at s0 el
        walk_at "rd"
        refine ⟨3, _, _, rfl, rfl, ?_⟩
        walk_at "rd"
        refine ⟨x, y, d, e, rfl, hx.same s0, hok, hy.same s0, .inl ⟨hd, fun H1 s1 => ?_⟩⟩
        refine ⟨_, rfl, T.x_NoOrder, fun ex σ hex hi => ?_⟩
        walk_at "rd"
        refine rd_var (List.getElem?_set_self hi) ?_
        walk_at "rd"
        exact ⟨ex, _, 0, rfl, upd_same, which_order T, fun v H2 s2 iv => q v H2 (((s0.trans s1).trans (Same.upd hex)).trans s2) iv⟩
    · rcases hk with rfl | rfl
      · walk_at "rd"
        refine ifF rfl ?_
        walk_at "rd"
        refine rd_callS ?_
        walk_at "rd"
        refine ⟨by show 4 ≤ sizeLine; decide, fun l hl => ?_⟩
        have s0 := Same.upd (o := .lst [V.ref t.a_renamed, V.ref t.a_without, V.ref t.a_joined, V.ref t.a_laid]) hl
        have el : upd H l (.lst [V.ref t.a_renamed, V.ref t.a_without, V.ref t.a_joined, V.ref t.a_laid]) l = some (.lst [V.ref t.a_renamed, V.ref t.a_without, V.ref t.a_joined, V.ref t.a_laid]) := upd_same
        generalize upd H l (.lst [V.ref t.a_renamed, V.ref t.a_without, V.ref t.a_joined, V.ref t.a_laid]) = H0 at s0 el
        walk_at "rd"
        refine ⟨2, _, _, rfl, rfl, ?_⟩
        walk_at "rd"
        refine ⟨x, y, d, e, rfl, hx.same s0, hok, hy.same s0, .inr (.inl ⟨hd, ke, he, fun H1 s1 => ?_⟩)⟩
        refine ⟨_, rfl, T.x_NoOrder, fun ex σ hex hi => ?_⟩
        walk_at "rd"
        refine rd_var (List.getElem?_set_self hi) ?_
        walk_at "rd"
        exact ⟨ex, _, 0, rfl, upd_same, which_order T, fun v H2 s2 iv => q v H2 (((s0.trans s1).trans (Same.upd hex)).trans s2) iv⟩
      · walk_at "rd"
        refine ifF rfl ?_
        walk_at "rd"
        refine rd_callS ?_
        walk_at "rd"
        refine ⟨by show 4 ≤ sizeLine; decide, fun l hl => ?_⟩
        have s0 := Same.upd (o := .lst [V.ref t.a_renamed, V.ref t.a_without, V.ref t.a_joined, V.ref t.a_laid]) hl
        have el : upd H l (.lst [V.ref t.a_renamed, V.ref t.a_without, V.ref t.a_joined, V.ref t.a_laid]) l = some (.lst [V.ref t.a_renamed, V.ref t.a_without, V.ref t.a_joined, V.ref t.a_laid]) := upd_same
        generalize upd H l (.lst [V.ref t.a_renamed, V.ref t.a_without, V.ref t.a_joined, V.ref t.a_laid]) = H0 at s0 el
        walk_at "rd"
        refine ⟨3, _, _, rfl, rfl, ?_⟩
        walk_at "rd"
        refine ⟨x, y, d, e, rfl, hx.same s0, hok, hy.same s0, .inr (.inl ⟨hd, ke, he, fun H1 s1 => ?_⟩)⟩
        refine ⟨_, rfl, T.x_NoOrder, fun ex σ hex hi => ?_⟩
        walk_at "rd"
        refine rd_var (List.getElem?_set_self hi) ?_
        walk_at "rd"
        exact ⟨ex, _, 0, rfl, upd_same, which_order T, fun v H2 s2 iv => q v H2 (((s0.trans s1).trans (Same.upd hex)).trans s2) iv⟩
    · walk_at "rd"
      refine ifF rfl ?_
      walk_at "rd"
      refine rd_callS ?_
      walk_at "rd"
      refine ⟨by show 4 ≤ sizeLine; decide, fun l hl => ?_⟩
      have s0 := Same.upd (o := .lst [V.ref t.a_renamed, V.ref t.a_without, V.ref t.a_joined, V.ref t.a_laid]) hl
      have el : upd H l (.lst [V.ref t.a_renamed, V.ref t.a_without, V.ref t.a_joined, V.ref t.a_laid]) l = some (.lst [V.ref t.a_renamed, V.ref t.a_without, V.ref t.a_joined, V.ref t.a_laid]) := upd_same
      generalize upd H l (.lst [V.ref t.a_renamed, V.ref t.a_without, V.ref t.a_joined, V.ref t.a_laid]) = H0 at s0 el
      walk_at "rd"
      refine ⟨0, _, _, rfl, rfl, ?_⟩
      walk_at "rd"
      refine ⟨x, y, _, e, rfl, hx.same s0, hok, hy.same s0, .inr ⟨n, ps, rfl, ho, N, fun H1 s1 => ?_⟩⟩
      refine ⟨_, rfl, T.x_NoNames, fun ex σ hex hi => ?_⟩
      walk_at "rd"
      refine rd_var (List.getElem?_set_self hi) ?_
      walk_at "rd"
      exact ⟨ex, _, 9, rfl, upd_same, which_names T, fun v H2 s2 iv => q v H2 (((s0.trans s1).trans (Same.upd hex)).trans s2) iv⟩
    · walk_at "rd"
      refine ifF rfl ?_
      walk_at "rd"
      refine rd_callS ?_
      walk_at "rd"
      refine ⟨by show 4 ≤ sizeLine; decide, fun l hl => ?_⟩
      have s0 := Same.upd (o := .lst [V.ref t.a_renamed, V.ref t.a_without, V.ref t.a_joined, V.ref t.a_laid]) hl
      have el : upd H l (.lst [V.ref t.a_renamed, V.ref t.a_without, V.ref t.a_joined, V.ref t.a_laid]) l = some (.lst [V.ref t.a_renamed, V.ref t.a_without, V.ref t.a_joined, V.ref t.a_laid]) := upd_same
      generalize upd H l (.lst [V.ref t.a_renamed, V.ref t.a_without, V.ref t.a_joined, V.ref t.a_laid]) = H0 at s0 el
      walk_at "rd"
      refine ⟨1, _, _, rfl, rfl, ?_⟩
      walk_at "rd"
      refine ⟨x, y, _, e, rfl, hx.same s0, hok, hy.same s0, .inr ⟨n, ps, rfl, ho, N, fun H1 s1 => ?_⟩⟩
      refine ⟨_, rfl, T.x_NoThing, fun ex σ hex hi => ?_⟩
      walk_at "rd"
      refine rd_var (List.getElem?_set_self hi) ?_
      walk_at "rd"
      exact ⟨ex, _, 3, rfl, upd_same, which_thing T, fun v H2 s2 iv => q v H2 (((s0.trans s1).trans (Same.upd hex)).trans s2) iv⟩
    · rcases hk with rfl | rfl
      · walk_at "rd"
        refine ifF rfl ?_
        walk_at "rd"
        refine rd_callS ?_
        walk_at "rd"
        refine ⟨by show 4 ≤ sizeLine; decide, fun l hl => ?_⟩
        have s0 := Same.upd (o := .lst [V.ref t.a_renamed, V.ref t.a_without, V.ref t.a_joined, V.ref t.a_laid]) hl
        have el : upd H l (.lst [V.ref t.a_renamed, V.ref t.a_without, V.ref t.a_joined, V.ref t.a_laid]) l = some (.lst [V.ref t.a_renamed, V.ref t.a_without, V.ref t.a_joined, V.ref t.a_laid]) := upd_same
        generalize upd H l (.lst [V.ref t.a_renamed, V.ref t.a_without, V.ref t.a_joined, V.ref t.a_laid]) = H0 at s0 el
        walk_at "rd"
        refine ⟨2, _, _, rfl, rfl, ?_⟩
        walk_at "rd"
        refine ⟨x, y, _, _, rfl, hx.same s0, hok, hy.same s0, .inr (.inr ⟨n, m, ps, qs, rfl, ho, rfl, hp, fun g H1 s1 => ?_, fun g z H1 rs s1 hz _ => ?_⟩)⟩
        · refine ⟨_, rfl, T.x_Full, fun ex σ hex hi => ?_⟩
          walk_at "rd"
          refine rd_var (List.getElem?_set_self hi) ?_
          walk_at "rd"
          exact ⟨ex, _, 7, rfl, upd_same, which_full T, fun v H2 s2 iv => q1 g v H2 (((s0.trans s1).trans (Same.upd hex)).trans s2) iv⟩
        · walk_at "rd"
          exact q2 g z H1 rs (s0.trans s1) hz
      · walk_at "rd"
        refine ifF rfl ?_
        walk_at "rd"
        refine rd_callS ?_
        walk_at "rd"
        refine ⟨by show 4 ≤ sizeLine; decide, fun l hl => ?_⟩
        have s0 := Same.upd (o := .lst [V.ref t.a_renamed, V.ref t.a_without, V.ref t.a_joined, V.ref t.a_laid]) hl
        have el : upd H l (.lst [V.ref t.a_renamed, V.ref t.a_without, V.ref t.a_joined, V.ref t.a_laid]) l = some (.lst [V.ref t.a_renamed, V.ref t.a_without, V.ref t.a_joined, V.ref t.a_laid]) := upd_same
        generalize upd H l (.lst [V.ref t.a_renamed, V.ref t.a_without, V.ref t.a_joined, V.ref t.a_laid]) = H0 at s0 el
        walk_at "rd"
        refine ⟨3, _, _, rfl, rfl, ?_⟩
        walk_at "rd"
        refine ⟨x, y, _, _, rfl, hx.same s0, hok, hy.same s0, .inr (.inr ⟨n, m, ps, qs, rfl, ho, rfl, hp, fun g H1 s1 => ?_, fun g z H1 rs s1 hz _ => ?_⟩)⟩
        · refine ⟨_, rfl, T.x_Full, fun ex σ hex hi => ?_⟩
          walk_at "rd"
          refine rd_var (List.getElem?_set_self hi) ?_
          walk_at "rd"
          exact ⟨ex, _, 7, rfl, upd_same, which_full T, fun v H2 s2 iv => q1 g v H2 (((s0.trans s1).trans (Same.upd hex)).trans s2) iv⟩
        · walk_at "rd"
          exact q2 g z H1 rs (s0.trans s1) hz
end
end My

set_option Elab.async false
set_option linter.all false
set_option maxRecDepth 100000
set_option maxHeartbeats 4000000
namespace My
open PySem L2
section
variable {P : Program} {w : World} {K : PySem.W.Frag} {mg : Str → Option Value} {base : Heap} {t : Ad}
theorem eqv_ref (i j : Nat) : PyData.eqv (refD i) (refD j) = decide (i = j) := by
  unfold refD
  rw [PyData.eqv, PyData.eqvAll, PyData.eqvAll, PyData.eqvAll, PyData.eqv, PyData.eqv]
  by_cases h : i = j
  · subst h; simp
  · have : ¬ (i : Int) = (j : Int) := by omega
    simp [h, this]
noncomputable def lowD (d : PyData) : Prop := PyData.canLay0 d = true ∧ PyData.depth d ≤ 10
theorem low_ref (i : Nat) : lowD (refD i) := ⟨by
  have h : PyData.strOk (Str.ofString "refused") = true := by decide +kernel
  simp [refD, PyData.canLay0, PyData.canLayAll0, h], by show 1 ≤ 10; decide⟩
theorem ok_ref (i : Nat) : okD (refD i) := ⟨(low_ref i).1, Nat.le_trans (low_ref i).2 (by decide)⟩
theorem low_ord (n : Nat) (ps : List (Int × Int)) : lowD (ordD n ps) := by
  refine ⟨(ok_ord n ps).1, ?_⟩
  have hd : PyData.depth (.tuple (ps.map prD)) ≤ 2 := by
    rw [PyData.depth]
    have : PyData.depthAll (ps.map prD) ≤ 1 := by
      induction ps with
      | nil => exact Nat.zero_le _
      | cons p ps ih =>
        rw [List.map_cons, PyData.depthAll]
        exact Nat.max_le.mpr ⟨Nat.le_refl _, ih⟩
    omega
  unfold ordD
  rw [PyData.depth, PyData.depthAll, PyData.depthAll, PyData.depthAll]
  have : PyData.depth (.int (n : Int)) = 0 := rfl
  omega
theorem ok_list {ds : List PyData} (h : ∀ d ∈ ds, lowD d) : okD (.list ds) := by
  have k : PyData.canLayAll0 ds = true ∧ PyData.depthAll ds ≤ 10 := by
    induction ds with
    | nil => exact ⟨rfl, Nat.zero_le _⟩
    | cons d ds ih =>
      obtain ⟨a, b⟩ := ih fun x hx => h x (List.mem_cons_of_mem _ hx)
      obtain ⟨c, e⟩ := h d List.mem_cons_self
      rw [PyData.canLayAll0, PyData.depthAll, a, c]
      exact ⟨rfl, Nat.max_le.mpr ⟨e, b⟩⟩
  refine ⟨?_, ?_⟩
  · rw [PyData.canLay0]; exact k.1
  · rw [PyData.depth]
    have := k.2
    omega
theorem ok_refs (m i : Nat) : okD (.list (List.replicate m (refD i))) := ok_list fun d hd => by rw [List.eq_of_mem_replicate hd]; exact low_ref i
theorem eqv_refs (m i : Nat) : PyData.eqv (.list (List.replicate m (refD i))) (.list (List.replicate m (refD i))) = true := by
  rw [PyData.eqv]
  induction m with
  | zero => rfl
  | succ m ih => rw [List.replicate_succ, PyData.eqvAll, eqv_ref, ih, decide_eq_true rfl]; rfl
theorem eqv_or (n i : Nat) (ps : List (Int × Int)) : PyData.eqv (ordD n ps) (refD i) = false := by
  unfold ordD refD
  rw [PyData.eqv, PyData.eqvAll, PyData.eqv]
  rfl
theorem isAll_rep {H : Hp} {v : V} {d : PyData} (h : Is H v d) : ∀ m, IsAll H (List.replicate m v) (List.replicate m d)
  | 0 => .nil
  | m + 1 => .cons h (isAll_rep h m)
theorem noL_ord (n : Nat) (ps : List (Int × Int)) : noL (ordD n ps) = true := by
  unfold ordD
  rw [noL, noLs, noLs, noLs, noL, noL, noLs_pr]
  rfl
theorem upTo_cons {n : Nat} (h : 1 ≤ n) : L2.upTo n = 0 :: (L2.upTo n).tail := by
  cases n with
  | zero => omega
  | succ n =>
    unfold L2.upTo
    rw [List.range_succ_eq_map]
    rfl
theorem ints_inj : ∀ {a b : List Int}, a.map PyData.int = b.map PyData.int → a = b
  | [], [], _ => rfl
  | [], _ :: _, h => by cases h
  | _ :: _, [], h => by cases h
  | x :: a, y :: b, h => by
    rw [List.map_cons, List.map_cons] at h
    injection h with h1 h2
    injection h1 with h1
    rw [h1, ints_inj h2]
theorem nn_other {d : PyData} {n : Nat} (h : ∀ ds, d ≠ .tuple ds) : NoNm d n := ⟨fun ds z => absurd z (h ds), fun ns z => absurd z (h _)⟩
theorem nn_ints {ns : List Int} {n : Nat} (l : ns.length < 60) (h : ¬ ns.Perm (L2.upTo n)) : NoNm (.tuple (ns.map .int)) n :=
  ⟨fun ds z => by injection z with z; rw [← z, List.length_map]; exact l, fun ns' z hp => by
    injection z with z
    rw [← ints_inj z] at hp
    exact h hp⟩
theorem nn_none {ns : List Int} {n : Nat} (l : ns.length < 59) : NoNm (.tuple (ns.map .int ++ [.none])) n :=
  ⟨fun ds z => by
    injection z with z
    rw [← z, List.length_append, List.length_map, List.length_singleton]
    omega, fun ns' z hp => by
    injection z with z
    have hm : PyData.none ∈ ns'.map PyData.int := by rw [← z]; simp
    obtain ⟨i, _, hi⟩ := List.mem_map.mp hm
    cases hi⟩
theorem three_four {j : Nat} {x : V} (h : [V.int 3, V.int 4][j]? = some x) : ∃ k : Int, x = .int k ∧ (k = 3 ∨ k = 4) := by
  match j, h with
  | 0, h => cases h; exact ⟨3, rfl, .inl rfl⟩
  | 1, h => cases h; exact ⟨4, rfl, .inr rfl⟩
  | j + 2, h => cases h
set_option genSizeOf false in
set_option genInjectivity false in
inductive spLaw (K : PySem.W.Frag) (vs : List V) (H : Hp) (Q : VK) (zz3 : XK) : Prop where
  | mk (a ns : _) (zh0 : vs = [.ref a]) (zh1 : Scr K H a ns) (zh2 : ∀ H', Q (.bl true) H') : spLaw K vs H Q zz3
theorem ok_law (T : Txt K mg t) : FnOk P w K mg base CX0 9 t.a_law t.d_law ["_law_script"] (spLaw K) := by
  refine T.F_law.ok sc_law (fun vs H Q E h => ?_) (fun cdv A outer s H vs Q E hr h => ?_)
  · obtain ⟨a, ns, rfl, _⟩ := h
    rfl
  · obtain ⟨a, ns, rfl, hs, q⟩ := h
    refine ⟨_, (pss_cons (ps_set (i := 1) sc_law.nd rfl (Or.inl rfl) (pe_lst pa_nil))
      (pss_cons (ps_set (i := 2) sc_law.nd rfl (Or.inr rfl) (pe_call (ok__law_odd T) (hr.mono (by decide)) rfl T.m__law_odd T.F__law_odd.kp T.b__law_odd .nil pass0 (pa_cons (pv 0) (pa_cons (pv 1) pa_nil))))
      (pss_cons (ps_set (i := 3) sc_law.nd rfl (Or.inr rfl) (pe_call (ok__law_any T) (hr.mono (by decide)) rfl T.m__law_any T.F__law_any.kp T.b__law_any .nil pass0 (pa_cons (pv 0) (pa_cons (pv 1) (pa_cons pe_int (pa_cons pe_int pa_nil))))))
      (pss_cons (ps_set (i := 4) sc_law.nd rfl (Or.inr rfl) (pe_call (ok__law_any T) (hr.mono (by decide)) rfl T.m__law_any T.F__law_any.kp T.b__law_any .nil pass0 (pa_cons (pv 0) (pa_cons (pv 1) (pa_cons pe_int (pa_cons pe_int pa_nil))))))
      (pss_cons (ps_set (i := 5) sc_law.nd rfl (Or.inl rfl) (pe_ix (k_ix K) (pv 3) pe_int (fun _ _ => rfl)))
      (pss_cons (ps_set (i := 6) sc_law.nd rfl (Or.inl rfl) (pe_callTy (call_tupR rfl) (by rfl) T.n_tuple bt_tuple (pa_cons (pe_callTy call_mkR (by rfl) T.n_range bt_range (pa_cons (pv 5) pa_nil)) pa_nil)))
      (pss_cons (ps_set (i := 7) sc_law.nd rfl (Or.inr rfl) (pe_lst (pa_cons pe_non (pa_cons (pe_slice (k_slT K) (pv 6) (po_some pe_int) po_none) (pa_cons (pe_op op_catU (pv 6) (pe_tup (pa_cons (pv 5) pa_nil))) (pa_cons (pe_callTy (k_list K) (by rfl) T.n_list bt_list (pa_cons (pv 6) pa_nil)) (pa_cons (pe_op op_repT (pe_tup (pa_cons pe_int pa_nil)) (pv 5)) (pa_cons (pe_op op_catU (pe_slice (k_slT K) (pv 6) po_none (po_some (pe_un un_neg pe_int))) (pe_tup (pa_cons (pv 5) pa_nil))) (pa_cons pe_str pa_nil)))))))))
      (pss_cons (ps_set (i := 7) sc_law.nd rfl (Or.inr rfl) (pe_call (ok__law_pick T) (hr.mono (by decide)) rfl T.m__law_pick T.F__law_pick.kp T.b__law_pick .nil pass0 (pa_cons (pv 0) (pa_cons (pv 1) (pa_cons (pe_op op_cat (pv 7) (pe_lst (pa_cons (pe_op op_catU (pe_slice (k_slT K) (pv 6) po_none (po_some (pe_un un_neg pe_int))) (pe_tup (pa_cons (pe_un un_neg pe_int) pa_nil))) (pa_cons (pe_op op_catU (pe_slice (k_slT K) (pv 6) po_none (po_some (pe_un un_neg pe_int))) (pe_tup (pa_cons pe_non pa_nil))) pa_nil)))) pa_nil)))))
      (pss_cons (ps_if (pt_cmpR (op_neD hr.units) (pe_lc rfl ⟨True.intro, True.intro, True.intro, (.inl rfl), (.inl rfl), True.intro⟩ (M := ["_law_what", "_law_odd_here", "_law_wrong"]) (.own (.free 2 rfl rfl (.free 7 rfl rfl .nil))) (gk_name rfl) rfl (by decide +kernel) (pi_range1 rfl T.n_range (pa_cons pe_int pa_nil)) (fun C fp s1 H1 => ⟨pg_name (i := 0) (show (["_law_what", "_law_odd_here", "_law_wrong"] : List Str).Nodup by decide +kernel) rfl (Or.inl rfl), pif_nil, (pe_call (ok__law_ask T) (hr.mono (by decide)) rfl T.m__law_ask T.F__law_ask.kp T.b__law_ask .nil pass0 (pa_cons (pv 0) (pa_cons (pv 1) (pa_cons (pv 2) pa_nil))))⟩)) (pe_op op_rep (pe_lst (pa_cons (pe_tup (pa_cons pe_str (pa_cons pe_int pa_nil))) pa_nil)) pe_int) (nomark _)) (pss_one (ps_ret pe_bl)) pss_nil)
      (pss_cons (ps_if (pt_cmpR (op_neD hr.units) (pe_lc rfl ⟨True.intro, True.intro, True.intro, (.inl rfl), (.inl rfl), True.intro⟩ (M := ["_law_what", "_law_odd_here", "_law_order"]) (.own (.free 2 rfl rfl (.free 3 rfl rfl .nil))) (gk_name rfl) rfl (by decide +kernel) (k_ptup K (pe_tup (pa_cons pe_int (pa_cons pe_int pa_nil)))) (fun C fp s1 H1 => ⟨pg_name (i := 0) (show (["_law_what", "_law_odd_here", "_law_order"] : List Str).Nodup by decide +kernel) rfl (Or.inl rfl), pif_nil, (pe_call (ok__law_ask T) (hr.mono (by decide)) rfl T.m__law_ask T.F__law_ask.kp T.b__law_ask .nil pass0 (pa_cons (pv 0) (pa_cons (pv 2) (pa_cons (pv 1) pa_nil))))⟩)) (pe_op op_rep (pe_lst (pa_cons (pe_tup (pa_cons pe_str (pa_cons pe_int pa_nil))) pa_nil)) pe_int) (nomark _)) (pss_one (ps_ret pe_bl)) pss_nil)
      (pss_cons (ps_if (PW.pt (pw_or (pt_cmpR (op_neD hr.units) (pe_call (ok__law_ask T) (hr.mono (by decide)) rfl T.m__law_ask T.F__law_ask.kp T.b__law_ask .nil pass0 (pa_cons pe_int (pa_cons (pv 3) (pa_cons (pv 7) pa_nil)))) (pe_tup (pa_cons pe_str (pa_cons pe_int pa_nil))) (nomark _)) (pw_or1 (pt_cmpR (op_neD hr.units) (pe_call (ok__law_ask T) (hr.mono (by decide)) rfl T.m__law_ask T.F__law_ask.kp T.b__law_ask .nil pass0 (pa_cons pe_int (pa_cons (pv 3) (pa_cons (pv 7) pa_nil)))) (pe_tup (pa_cons pe_str (pa_cons pe_int pa_nil))) (nomark _))))) (pss_one (ps_ret pe_bl)) pss_nil)
      (pss_cons (ps_set_lc (i := 8) sc_law.nd rfl rfl rfl rfl ⟨True.intro, True.intro, True.intro, (.inl rfl), (.inl rfl), True.intro⟩ (M := ["_law_what", "_law_order", "_law_other"]) (.own (.free 3 rfl rfl (.free 4 rfl rfl .nil))) (gk_name rfl) rfl (by decide +kernel) (k_ptup K (pe_tup (pa_cons pe_int (pa_cons pe_int pa_nil)))) (fun C fp s1 H1 => ⟨pg_name (i := 0) (show (["_law_what", "_law_order", "_law_other"] : List Str).Nodup by decide +kernel) rfl (Or.inl rfl), pif_nil, (pe_call (ok__law_ask T) (hr.mono (by decide)) rfl T.m__law_ask T.F__law_ask.kp T.b__law_ask .nil pass0 (pa_cons (pv 0) (pa_cons (pv 1) (pa_cons (pv 2) pa_nil))))⟩))
      (pss_one (ps_ret (pe_cmpR (op_eqD hr.units) (pe_cmpR (op_eqD hr.units) (pv 8) (pe_op op_rep (pe_lst (pa_cons (pe_tup (pa_cons pe_str (pa_cons pe_int pa_nil))) pa_nil)) pe_int) (nomark _)) (pe_cmpR (op_gt) (pe_op op_add (pv 5) (pe_ix (k_ix K) (pv 4) pe_int (fun _ _ => rfl))) pe_int (nomark _)) (nomark _)))))))))))))))), ?_⟩
    walk_at "rd"
    refine ⟨Nat.zero_le _, fun tw htw => ?_⟩
    have hs0 := hs.same (Same.upd (o := .lst []) htw)
    have ht0 : upd H tw (.lst []) tw = some (.lst []) := upd_same
    generalize upd H tw (.lst []) = H0 at hs0 ht0
    clear htw hs
    walk_at "rd"
    refine ⟨a, ns, tw, [], rfl, hs0, ht0, by decide, fun ov H1 ts1 dd s1 ht1 hl1 fo hdd hko => ?_⟩
    have hs1 := hs0.t ht0 s1
    rw [List.length_nil] at hl1
    walk_at "rd"
    refine ⟨a, ns, tw, ts1, 2, 8, rfl, by decide, by decide, by decide, hs1, ht1, by omega, fun x H2 n ps ts2 s2 ht2 hl2 nlo _ hx ho => ?_⟩
    have hs2 := hs1.t ht1 s2
    walk_at "rd"
    refine ⟨a, ns, tw, ts2, 1, 8, rfl, by decide, by decide, by decide, hs2, ht2, by omega, fun y H3 m qs ts3 s3 ht3 hl3 _ _ hy hp => ?_⟩
    have hs3 := hs2.t ht2 s3
    have n2 : 2 ≤ n := by omega
    have n8 := ho.hi
    have hx3 : Is H3 x (ordD n ps) := hx.tmono (fun c us e => s3 _ _ e (ne_of e ht2 (by intro z; cases z))) (noL_ord _ _)
    have kO : ∀ b u, H0 b = none → H1 b = some u → b ≠ tw ∧ H3 b = some u := fun b u nb eb => by
      have nt : b ≠ tw := fun z => by rw [z, ht0] at nb; cases nb
      exact ⟨nt, s3 _ _ (s2 _ _ eb nt) nt⟩
    clear s1 s2 s3 hs0 hs1 hs2 ht1 ht2 hx
    obtain ⟨oa, ob, xs, rfl, ea, eb, hxs⟩ := is_ord hx3
    obtain ⟨oc, oe, ys, rfl, ec, ed, hys⟩ := is_ord hy
    have sA := Same.refl H3
    have eU := upTo_cons (n := n) (by omega)
    have eI : L2.upTo n = L2.upTo (n - 1) ++ [((n - 1 : Nat) : Int)] := by
      have := L2.upTo_succ (n - 1)
      rwa [show n - 1 + 1 = n by omega] at this
    have lU := L2.upTo_len n
    have lV := L2.upTo_len (n - 1)
    walk_at "rd"
    refine rd_mkR fun r hr1 => ?_
    have sn := Same.upd (o := .rng 0 (n : Int)) hr1
    have er : upd H3 r (.rng 0 (n : Int)) r = some (.rng 0 (n : Int)) := upd_same
    replace ht3 := sn _ _ ht3
    replace sA := sA.trans sn
    generalize upd H3 r (.rng 0 (n : Int)) = G4 at sA er ht3
    clear sn hr1
    walk_at "rd"
    refine rd_tupR er (by omega) fun nm hnm => ?_
    have sn := Same.upd (o := .tup ((L2.upTo n).map V.int)) hnm
    have em : upd G4 nm (.tup ((L2.upTo n).map V.int)) nm = some (.tup ((L2.upTo n).map V.int)) := upd_same
    replace ht3 := sn _ _ ht3
    replace er := sn _ _ er
    replace sA := sA.trans sn
    generalize upd G4 nm (.tup ((L2.upTo n).map V.int)) = G5 at sA em ht3 er
    clear sn hnm
    have em1 := em
    rw [eU, List.map_cons] at em1
    have em2 := em
    rw [eI, List.map_append, show [((n - 1 : Nat) : Int)].map V.int = [V.int ((n - 1 : Nat) : Int)] from rfl] at em2
    walk_at "rd"
    refine rd_sl ?_
    walk_at "rd"
    refine rd_part ?_
    walk_at "rd"
    refine ⟨1, rfl, ?_⟩
    refine rd_noP ?_
    refine rd_tail em1 fun p1 hp1 => ?_
    have sn := Same.upd (o := .tup ((L2.upTo n).tail.map V.int)) hp1
    have e1 : upd G5 p1 (.tup ((L2.upTo n).tail.map V.int)) p1 = some (.tup ((L2.upTo n).tail.map V.int)) := upd_same
    replace ht3 := sn _ _ ht3
    replace er := sn _ _ er
    replace em := sn _ _ em
    replace em1 := sn _ _ em1
    replace em2 := sn _ _ em2
    replace sA := sA.trans sn
    generalize upd G5 p1 (.tup ((L2.upTo n).tail.map V.int)) = G6 at sA e1 ht3 er em em1 em2
    clear sn hp1
    walk_at "rd"
    refine ⟨by show 1 ≤ sizeLine; decide, fun q2 hq2 => ?_⟩
    have sn := Same.upd (o := .tup [V.int (n : Int)]) hq2
    have f2 : upd G6 q2 (.tup [V.int (n : Int)]) q2 = some (.tup [V.int (n : Int)]) := upd_same
    replace ht3 := sn _ _ ht3
    replace er := sn _ _ er
    replace em := sn _ _ em
    replace em1 := sn _ _ em1
    replace em2 := sn _ _ em2
    replace e1 := sn _ _ e1
    replace sA := sA.trans sn
    generalize upd G6 q2 (.tup [V.int (n : Int)]) = G7 at sA f2 ht3 er em em1 em2 e1
    clear sn hq2
    refine rd_catU em f2 (small_ln (by rw [List.length_map, lU]; show n + 1 ≤ 1000; omega)) fun p2 K2 t2 e2 => ?_
    replace ht3 := t2 _ _ ht3
    replace er := t2 _ _ er
    replace em := t2 _ _ em
    replace em1 := t2 _ _ em1
    replace em2 := t2 _ _ em2
    replace e1 := t2 _ _ e1
    replace f2 := t2 _ _ f2
    replace sA := sA.trans t2
    clear t2
    walk_at "rd"
    refine rd_lstT em fun p3 hp3 => ?_
    have n3 : p3 ≠ tw := fun z => by rw [z, ht3] at hp3; cases hp3
    have sn := Same.upd (o := .lst ((L2.upTo n).map V.int)) hp3
    have e3 : upd K2 p3 (.lst ((L2.upTo n).map V.int)) p3 = some (.lst ((L2.upTo n).map V.int)) := upd_same
    replace ht3 := sn _ _ ht3
    replace er := sn _ _ er
    replace em := sn _ _ em
    replace em1 := sn _ _ em1
    replace em2 := sn _ _ em2
    replace e1 := sn _ _ e1
    replace f2 := sn _ _ f2
    replace e2 := sn _ _ e2
    replace sA := sA.trans sn
    generalize upd K2 p3 (.lst ((L2.upTo n).map V.int)) = G8 at sA e3 ht3 er em em1 em2 e1 f2 e2
    clear sn hp3
    walk_at "rd"
    refine ⟨by show 1 ≤ sizeLine; decide, fun q4 hq4 => ?_⟩
    have sn := Same.upd (o := .tup [V.int 0]) hq4
    have f4 : upd G8 q4 (.tup [V.int 0]) q4 = some (.tup [V.int 0]) := upd_same
    replace ht3 := sn _ _ ht3
    replace er := sn _ _ er
    replace em := sn _ _ em
    replace em1 := sn _ _ em1
    replace em2 := sn _ _ em2
    replace e1 := sn _ _ e1
    replace f2 := sn _ _ f2
    replace e2 := sn _ _ e2
    replace e3 := sn _ _ e3
    replace sA := sA.trans sn
    generalize upd G8 q4 (.tup [V.int 0]) = G9 at sA f4 ht3 er em em1 em2 e1 f2 e2 e3
    clear sn hq4
    walk_at "rd"
    refine rd_repT f4 n2 (by omega) fun p4 hp4 => ?_
    have sn := Same.upd (o := .tup (List.replicate n (V.int 0))) hp4
    have e4 : upd G9 p4 (.tup (List.replicate n (V.int 0))) p4 = some (.tup (List.replicate n (V.int 0))) := upd_same
    replace ht3 := sn _ _ ht3
    replace er := sn _ _ er
    replace em := sn _ _ em
    replace em1 := sn _ _ em1
    replace em2 := sn _ _ em2
    replace e1 := sn _ _ e1
    replace f2 := sn _ _ f2
    replace e2 := sn _ _ e2
    replace e3 := sn _ _ e3
    replace f4 := sn _ _ f4
    replace sA := sA.trans sn
    generalize upd G9 p4 (.tup (List.replicate n (V.int 0))) = G10 at sA e4 ht3 er em em1 em2 e1 f2 e2 e3 f4
    clear sn hp4
    walk_at "rd"
    refine rd_sl ?_
    walk_at "rd"
    refine rd_noP ?_
    refine rd_part ?_
    walk_at "rd"
    refine ⟨_, rfl, ?_⟩
    refine ⟨-1, rfl, ?_⟩
    refine rd_init em2 fun q5 hq5 => ?_
    have sn := Same.upd (o := .tup ((L2.upTo (n - 1)).map V.int)) hq5
    have f5 : upd G10 q5 (.tup ((L2.upTo (n - 1)).map V.int)) q5 = some (.tup ((L2.upTo (n - 1)).map V.int)) := upd_same
    replace ht3 := sn _ _ ht3
    replace er := sn _ _ er
    replace em := sn _ _ em
    replace em1 := sn _ _ em1
    replace em2 := sn _ _ em2
    replace e1 := sn _ _ e1
    replace f2 := sn _ _ f2
    replace e2 := sn _ _ e2
    replace e3 := sn _ _ e3
    replace f4 := sn _ _ f4
    replace e4 := sn _ _ e4
    replace sA := sA.trans sn
    generalize upd G10 q5 (.tup ((L2.upTo (n - 1)).map V.int)) = G11 at sA f5 ht3 er em em1 em2 e1 f2 e2 e3 f4 e4
    clear sn hq5
    walk_at "rd"
    refine ⟨by show 1 ≤ sizeLine; decide, fun r5 hr5 => ?_⟩
    have sn := Same.upd (o := .tup [V.int (n : Int)]) hr5
    have g5 : upd G11 r5 (.tup [V.int (n : Int)]) r5 = some (.tup [V.int (n : Int)]) := upd_same
    replace ht3 := sn _ _ ht3
    replace er := sn _ _ er
    replace em := sn _ _ em
    replace em1 := sn _ _ em1
    replace em2 := sn _ _ em2
    replace e1 := sn _ _ e1
    replace f2 := sn _ _ f2
    replace e2 := sn _ _ e2
    replace e3 := sn _ _ e3
    replace f4 := sn _ _ f4
    replace e4 := sn _ _ e4
    replace f5 := sn _ _ f5
    replace sA := sA.trans sn
    generalize upd G11 r5 (.tup [V.int (n : Int)]) = G12 at sA g5 ht3 er em em1 em2 e1 f2 e2 e3 f4 e4 f5
    clear sn hr5
    refine rd_catU f5 g5 (small_ln (by rw [List.length_map, lV]; show n - 1 + 1 ≤ 1000; omega)) fun p5 K5 t5 e5 => ?_
    replace ht3 := t5 _ _ ht3
    replace er := t5 _ _ er
    replace em := t5 _ _ em
    replace em1 := t5 _ _ em1
    replace em2 := t5 _ _ em2
    replace e1 := t5 _ _ e1
    replace f2 := t5 _ _ f2
    replace e2 := t5 _ _ e2
    replace e3 := t5 _ _ e3
    replace f4 := t5 _ _ f4
    replace e4 := t5 _ _ e4
    replace f5 := t5 _ _ f5
    replace g5 := t5 _ _ g5
    replace sA := sA.trans t5
    clear t5
    walk_at "rd"
    refine ⟨by show 7 ≤ sizeLine; decide, fun wl hwl => ?_⟩
    have sn := Same.upd (o := .lst [V.non, V.ref p1, V.ref p2, V.ref p3, V.ref p4, V.ref p5, V.str "01"]) hwl
    have ew : upd K5 wl (.lst [V.non, V.ref p1, V.ref p2, V.ref p3, V.ref p4, V.ref p5, V.str "01"]) wl = some (.lst [V.non, V.ref p1, V.ref p2, V.ref p3, V.ref p4, V.ref p5, V.str "01"]) := upd_same
    replace ht3 := sn _ _ ht3
    replace er := sn _ _ er
    replace em := sn _ _ em
    replace em1 := sn _ _ em1
    replace em2 := sn _ _ em2
    replace e1 := sn _ _ e1
    replace f2 := sn _ _ f2
    replace e2 := sn _ _ e2
    replace e3 := sn _ _ e3
    replace f4 := sn _ _ f4
    replace e4 := sn _ _ e4
    replace f5 := sn _ _ f5
    replace g5 := sn _ _ g5
    replace e5 := sn _ _ e5
    replace sA := sA.trans sn
    generalize upd K5 wl (.lst [V.non, V.ref p1, V.ref p2, V.ref p3, V.ref p4, V.ref p5, V.str "01"]) = G13 at sA ew ht3 er em em1 em2 e1 f2 e2 e3 f4 e4 f5 g5 e5
    clear sn hwl
    walk_at "rd"
    refine rd_sl ?_
    walk_at "rd"
    refine rd_noP ?_
    refine rd_part ?_
    walk_at "rd"
    refine ⟨_, rfl, ?_⟩
    refine ⟨-1, rfl, ?_⟩
    refine rd_init em2 fun q6 hq6 => ?_
    have sn := Same.upd (o := .tup ((L2.upTo (n - 1)).map V.int)) hq6
    have f6 : upd G13 q6 (.tup ((L2.upTo (n - 1)).map V.int)) q6 = some (.tup ((L2.upTo (n - 1)).map V.int)) := upd_same
    replace ht3 := sn _ _ ht3
    replace er := sn _ _ er
    replace em := sn _ _ em
    replace em1 := sn _ _ em1
    replace em2 := sn _ _ em2
    replace e1 := sn _ _ e1
    replace f2 := sn _ _ f2
    replace e2 := sn _ _ e2
    replace e3 := sn _ _ e3
    replace f4 := sn _ _ f4
    replace e4 := sn _ _ e4
    replace f5 := sn _ _ f5
    replace g5 := sn _ _ g5
    replace e5 := sn _ _ e5
    replace ew := sn _ _ ew
    replace sA := sA.trans sn
    generalize upd G13 q6 (.tup ((L2.upTo (n - 1)).map V.int)) = G14 at sA f6 ht3 er em em1 em2 e1 f2 e2 e3 f4 e4 f5 g5 e5 ew
    clear sn hq6
    walk_at "rd"
    refine ⟨_, rfl, ?_⟩
    walk_at "rd"
    refine ⟨by show 1 ≤ sizeLine; decide, fun r6 hr6 => ?_⟩
    have sn := Same.upd (o := .tup [V.int (-1)]) hr6
    have g6 : upd G14 r6 (.tup [V.int (-1)]) r6 = some (.tup [V.int (-1)]) := upd_same
    replace ht3 := sn _ _ ht3
    replace er := sn _ _ er
    replace em := sn _ _ em
    replace em1 := sn _ _ em1
    replace em2 := sn _ _ em2
    replace e1 := sn _ _ e1
    replace f2 := sn _ _ f2
    replace e2 := sn _ _ e2
    replace e3 := sn _ _ e3
    replace f4 := sn _ _ f4
    replace e4 := sn _ _ e4
    replace f5 := sn _ _ f5
    replace g5 := sn _ _ g5
    replace e5 := sn _ _ e5
    replace ew := sn _ _ ew
    replace f6 := sn _ _ f6
    replace sA := sA.trans sn
    generalize upd G14 r6 (.tup [V.int (-1)]) = G15 at sA g6 ht3 er em em1 em2 e1 f2 e2 e3 f4 e4 f5 g5 e5 ew f6
    clear sn hr6
    refine rd_catU f6 g6 (small_ln (by rw [List.length_map, lV]; show n - 1 + 1 ≤ 1000; omega)) fun p6 K6 t6 e6 => ?_
    replace ht3 := t6 _ _ ht3
    replace er := t6 _ _ er
    replace em := t6 _ _ em
    replace em1 := t6 _ _ em1
    replace em2 := t6 _ _ em2
    replace e1 := t6 _ _ e1
    replace f2 := t6 _ _ f2
    replace e2 := t6 _ _ e2
    replace e3 := t6 _ _ e3
    replace f4 := t6 _ _ f4
    replace e4 := t6 _ _ e4
    replace f5 := t6 _ _ f5
    replace g5 := t6 _ _ g5
    replace e5 := t6 _ _ e5
    replace ew := t6 _ _ ew
    replace f6 := t6 _ _ f6
    replace g6 := t6 _ _ g6
    replace sA := sA.trans t6
    clear t6
    walk_at "rd"
    refine rd_sl ?_
    walk_at "rd"
    refine rd_noP ?_
    refine rd_part ?_
    walk_at "rd"
    refine ⟨_, rfl, ?_⟩
    refine ⟨-1, rfl, ?_⟩
    refine rd_init em2 fun q7 hq7 => ?_
    have sn := Same.upd (o := .tup ((L2.upTo (n - 1)).map V.int)) hq7
    have f7 : upd K6 q7 (.tup ((L2.upTo (n - 1)).map V.int)) q7 = some (.tup ((L2.upTo (n - 1)).map V.int)) := upd_same
    replace ht3 := sn _ _ ht3
    replace er := sn _ _ er
    replace em := sn _ _ em
    replace em1 := sn _ _ em1
    replace em2 := sn _ _ em2
    replace e1 := sn _ _ e1
    replace f2 := sn _ _ f2
    replace e2 := sn _ _ e2
    replace e3 := sn _ _ e3
    replace f4 := sn _ _ f4
    replace e4 := sn _ _ e4
    replace f5 := sn _ _ f5
    replace g5 := sn _ _ g5
    replace e5 := sn _ _ e5
    replace ew := sn _ _ ew
    replace f6 := sn _ _ f6
    replace g6 := sn _ _ g6
    replace e6 := sn _ _ e6
    replace sA := sA.trans sn
    generalize upd K6 q7 (.tup ((L2.upTo (n - 1)).map V.int)) = G16 at sA f7 ht3 er em em1 em2 e1 f2 e2 e3 f4 e4 f5 g5 e5 ew f6 g6 e6
    clear sn hq7
    walk_at "rd"
    refine ⟨by show 1 ≤ sizeLine; decide, fun r7 hr7 => ?_⟩
    have sn := Same.upd (o := .tup [V.non]) hr7
    have g7 : upd G16 r7 (.tup [V.non]) r7 = some (.tup [V.non]) := upd_same
    replace ht3 := sn _ _ ht3
    replace er := sn _ _ er
    replace em := sn _ _ em
    replace em1 := sn _ _ em1
    replace em2 := sn _ _ em2
    replace e1 := sn _ _ e1
    replace f2 := sn _ _ f2
    replace e2 := sn _ _ e2
    replace e3 := sn _ _ e3
    replace f4 := sn _ _ f4
    replace e4 := sn _ _ e4
    replace f5 := sn _ _ f5
    replace g5 := sn _ _ g5
    replace e5 := sn _ _ e5
    replace ew := sn _ _ ew
    replace f6 := sn _ _ f6
    replace g6 := sn _ _ g6
    replace e6 := sn _ _ e6
    replace f7 := sn _ _ f7
    replace sA := sA.trans sn
    generalize upd G16 r7 (.tup [V.non]) = G17 at sA g7 ht3 er em em1 em2 e1 f2 e2 e3 f4 e4 f5 g5 e5 ew f6 g6 e6 f7
    clear sn hr7
    refine rd_catU f7 g7 (small_ln (by rw [List.length_map, lV]; show n - 1 + 1 ≤ 1000; omega)) fun p7 K7 t7 e7 => ?_
    replace ht3 := t7 _ _ ht3
    replace er := t7 _ _ er
    replace em := t7 _ _ em
    replace em1 := t7 _ _ em1
    replace em2 := t7 _ _ em2
    replace e1 := t7 _ _ e1
    replace f2 := t7 _ _ f2
    replace e2 := t7 _ _ e2
    replace e3 := t7 _ _ e3
    replace f4 := t7 _ _ f4
    replace e4 := t7 _ _ e4
    replace f5 := t7 _ _ f5
    replace g5 := t7 _ _ g5
    replace e5 := t7 _ _ e5
    replace ew := t7 _ _ ew
    replace f6 := t7 _ _ f6
    replace g6 := t7 _ _ g6
    replace e6 := t7 _ _ e6
    replace f7 := t7 _ _ f7
    replace g7 := t7 _ _ g7
    replace sA := sA.trans t7
    clear t7
    walk_at "rd"
    refine ⟨by show 2 ≤ sizeLine; decide, fun wm hwm => ?_⟩
    have sn := Same.upd (o := .lst [V.ref p6, V.ref p7]) hwm
    have ex : upd K7 wm (.lst [V.ref p6, V.ref p7]) wm = some (.lst [V.ref p6, V.ref p7]) := upd_same
    replace ht3 := sn _ _ ht3
    replace er := sn _ _ er
    replace em := sn _ _ em
    replace em1 := sn _ _ em1
    replace em2 := sn _ _ em2
    replace e1 := sn _ _ e1
    replace f2 := sn _ _ f2
    replace e2 := sn _ _ e2
    replace e3 := sn _ _ e3
    replace f4 := sn _ _ f4
    replace e4 := sn _ _ e4
    replace f5 := sn _ _ f5
    replace g5 := sn _ _ g5
    replace e5 := sn _ _ e5
    replace ew := sn _ _ ew
    replace f6 := sn _ _ f6
    replace g6 := sn _ _ g6
    replace e6 := sn _ _ e6
    replace f7 := sn _ _ f7
    replace g7 := sn _ _ g7
    replace e7 := sn _ _ e7
    replace sA := sA.trans sn
    generalize upd K7 wm (.lst [V.ref p6, V.ref p7]) = G18 at sA ex ht3 er em em1 em2 e1 f2 e2 e3 f4 e4 f5 g5 e5 ew f6 g6 e6 f7 g7 e7
    clear sn hwm
    refine rd_cat ew ex (by show 9 ≤ sizeLine; decide) fun wn hwn => ?_
    have nwn : wn ≠ tw := fun z => by rw [z, ht3] at hwn; cases hwn
    have sn := Same.upd (o := .lst ([V.non, V.ref p1, V.ref p2, V.ref p3, V.ref p4, V.ref p5, V.str "01"] ++ [V.ref p6, V.ref p7])) hwn
    have ey : upd G18 wn (.lst ([V.non, V.ref p1, V.ref p2, V.ref p3, V.ref p4, V.ref p5, V.str "01"] ++ [V.ref p6, V.ref p7])) wn = some (.lst ([V.non, V.ref p1, V.ref p2, V.ref p3, V.ref p4, V.ref p5, V.str "01"] ++ [V.ref p6, V.ref p7])) := upd_same
    replace ht3 := sn _ _ ht3
    replace er := sn _ _ er
    replace em := sn _ _ em
    replace em1 := sn _ _ em1
    replace em2 := sn _ _ em2
    replace e1 := sn _ _ e1
    replace f2 := sn _ _ f2
    replace e2 := sn _ _ e2
    replace e3 := sn _ _ e3
    replace f4 := sn _ _ f4
    replace e4 := sn _ _ e4
    replace f5 := sn _ _ f5
    replace g5 := sn _ _ g5
    replace e5 := sn _ _ e5
    replace ew := sn _ _ ew
    replace f6 := sn _ _ f6
    replace g6 := sn _ _ g6
    replace e6 := sn _ _ e6
    replace f7 := sn _ _ f7
    replace g7 := sn _ _ g7
    replace e7 := sn _ _ e7
    replace ex := sn _ _ ex
    replace sA := sA.trans sn
    generalize upd G18 wn (.lst ([V.non, V.ref p1, V.ref p2, V.ref p3, V.ref p4, V.ref p5, V.str "01"] ++ [V.ref p6, V.ref p7])) = G19 at sA ey ht3 er em em1 em2 e1 f2 e2 e3 f4 e4 f5 g5 e5 ew f6 g6 e6 f7 g7 e7 ex
    clear sn hwn
    walk_at "rd"
    refine ⟨a, ns, tw, ts3, wn, _, rfl, hs3.same sA, ht3, by omega, ey, nwn, by show 0 < 9; decide, fun wv H9 ts9 s9 ht9 hl9 hwv => ?_⟩
    have keep : ∀ c us, G19 c = some (.tup us) → H9 c = some (.tup us) := fun c us e => s9 _ _ e (ne_of e ht3 (by intro z; cases z))
    have hO : Is H9 ov dd := fo H9 fun b u nb eb => s9 _ _ (sA _ _ (kO b u nb eb).2) (kO b u nb eb).1
    have hX : Is H9 (.ref oa) (ordD n ps) := (hx3.same sA).tmono keep (noL_ord _ _)
    have hY : Is H9 (.ref oc) (ordD m qs) := (hy.same sA).tmono keep (noL_ord _ _)
    have wrong : ∃ dw, Is H9 wv dw ∧ NoNm dw n ∧ wholeB dw 0 ((n : Int) - 1) = false := by
      simp only [List.cons_append, List.nil_append, List.mem_cons, List.not_mem_nil, or_false] at hwv
      rcases hwv with rfl | rfl | rfl | rfl | rfl | rfl | rfl | rfl | rfl
      · exact ⟨_, .non, nn_other (fun _ z => by cases z), rfl⟩
      · refine ⟨_, .tup (keep _ _ e1) (IsAll.ints _), nn_ints (by rw [List.length_tail, lU]; omega) fun z => ?_, rfl⟩
        have := z.length_eq
        rw [List.length_tail, lU] at this
        omega
      · have e2' := keep _ _ e2
        rw [show (L2.upTo n).map V.int ++ [V.int (n : Int)] = (L2.upTo n ++ [(n : Int)]).map V.int by rw [List.map_append]; rfl] at e2'
        refine ⟨_, .tup e2' (IsAll.ints _), nn_ints (by rw [List.length_append, lU, List.length_singleton]; omega) fun z => ?_, rfl⟩
        have := z.length_eq
        rw [List.length_append, lU, List.length_singleton] at this
        omega
      · exact ⟨_, .lst (Rd.of (s9 _ _ e3 n3)) (IsAll.ints _), nn_other (fun _ z => by cases z), rfl⟩
      · have e4' := keep _ _ e4
        rw [show List.replicate n (V.int 0) = (List.replicate n (0 : Int)).map V.int by rw [List.map_replicate]] at e4'
        refine ⟨_, .tup e4' (IsAll.ints _), nn_ints (by rw [List.length_replicate]; omega) fun z => ?_, rfl⟩
        have h1 : (1 : Int) ∈ List.replicate n (0 : Int) := z.mem_iff.mpr (L2.mem_upTo.mpr ⟨by omega, by omega⟩)
        exact absurd (List.eq_of_mem_replicate h1) (by decide)
      · have e5' := keep _ _ e5
        rw [show (L2.upTo (n - 1)).map V.int ++ [V.int (n : Int)] = (L2.upTo (n - 1) ++ [(n : Int)]).map V.int by rw [List.map_append]; rfl] at e5'
        refine ⟨_, .tup e5' (IsAll.ints _), nn_ints (by rw [List.length_append, lV, List.length_singleton]; omega) fun z => ?_, rfl⟩
        have h1 := L2.mem_upTo.mp (z.mem_iff.mp (List.mem_append_right (L2.upTo (n - 1)) (List.mem_singleton.mpr rfl)))
        omega
      · exact ⟨_, .str _, nn_other (fun _ z => by cases z), rfl⟩
      · have e6' := keep _ _ e6
        rw [show (L2.upTo (n - 1)).map V.int ++ [V.int (-1)] = (L2.upTo (n - 1) ++ [(-1 : Int)]).map V.int by rw [List.map_append]; rfl] at e6'
        refine ⟨_, .tup e6' (IsAll.ints _), nn_ints (by rw [List.length_append, lV, List.length_singleton]; omega) fun z => ?_, rfl⟩
        have h1 := L2.mem_upTo.mp (z.mem_iff.mp (List.mem_append_right (L2.upTo (n - 1)) (List.mem_singleton.mpr rfl)))
        omega
      · exact ⟨_, .tup (keep _ _ e7) ((IsAll.ints _).append (.cons .non .nil)), nn_none (by rw [lV]; omega), rfl⟩
    obtain ⟨dw, hW, nW, wW⟩ := wrong
    clear s9 keep kO sA hx3 hy er em em1 em2 e1 f2 e2 e3 f4 e4 f5 g5 e5 ew f6 g6 e6 f7 g7 e7 ex ey
    walk_at "rd"
    refine ⟨_, rfl, by decide, by decide, ?_⟩
    rw [show (5 : Int).toNat = 5 from rfl]
    refine lp_range (small_ln (by decide)) (fun j zs H' => Same H9 H' ∧ IsAll H' zs (List.replicate j (refD 0))) ⟨Same.refl _, .nil⟩ (by rintro j zs H' ⟨_, h⟩; rw [h.length, List.length_replicate]; exact Nat.le_refl _) ?_ ?_
    · rintro j zs H10 hj ⟨s10, iz⟩
      walk_at "rd"
      refine ⟨_, _, _, dd, dw, rfl, hO.same s10, hko, hW.same s10, .inl ⟨hdd, by omega, by omega, fun v H11 s11 iv => ⟨s10.trans s11, ?_⟩⟩⟩
      rw [List.replicate_succ']
      exact (iz.same s11).append (.cons iv .nil)
    rintro zs H10 ⟨s10, iz⟩ c1 hc1
    have u1 := Same.upd (o := .lst zs) hc1
    have i1 := iz.same u1
    have k1 : upd H10 c1 (.lst zs) c1 = some (.lst zs) := upd_same
    replace s10 := s10.trans u1
    generalize upd H10 c1 (.lst zs) = H11 at s10 i1 k1
    clear u1 hc1 iz
    walk_at "rd"
    refine ⟨by show 2 ≤ sizeLine; decide, fun pa1 hpa1 => ?_⟩
    have ta1 := Same.upd (o := .tup [V.str "refused", V.int 0]) hpa1
    walk_at "rd"
    refine ⟨by show 1 ≤ sizeLine; decide, fun pb1 hpb1 => ?_⟩
    have tb1 := Same.upd (o := .lst [V.ref pa1]) hpb1
    walk_at "rd"
    refine rd_rep (n := 5) upd_same (by decide) fun pc1 hpc1 => ?_
    have tc1 := Same.upd (o := .lst (List.replicate 5 (V.ref pa1))) hpc1
    have td1 := (ta1.trans tb1).trans tc1
    have ia1 : IsAll (upd (upd (upd H11 pa1 (.tup [V.str "refused", V.int 0])) pb1 (.lst [V.ref pa1])) pc1 (.lst (List.replicate 5 (V.ref pa1)))) (List.replicate 5 (V.ref pa1)) (List.replicate 5 (refD 0)) := isAll_rep (.tup (tc1 _ _ (tb1 _ _ upd_same)) (.cons (.str _) (.cons (.int _) .nil))) _
    refine rd_eqD (d := .list (List.replicate 5 (refD 0))) (e := .list (List.replicate 5 (refD 0))) (.lst (Rd.of (td1 _ _ k1)) (i1.same td1)) (.lst (Rd.of upd_same) ia1) (ok_refs 5 0) (ok_refs 5 0) ?_
    rw [eqv_refs]
    replace s10 := s10.trans td1
    generalize upd (upd (upd H11 pa1 (.tup [V.str "refused", V.int 0])) pb1 (.lst [V.ref pa1])) pc1 (.lst (List.replicate 5 (V.ref pa1))) = H12 at s10
    replace hO := hO.same s10
    replace hX := hX.same s10
    replace hY := hY.same s10
    replace hW := hW.same s10
    clear s10 td1 ta1 tb1 tc1 ia1 i1 k1
    walk_at "rd"
    refine ifF rfl ?_
    walk_at "rd"
    refine ⟨two_ln, fun pt hpt => ⟨pt, rfl, ⟨_, SqT.of upd_same⟩, ?_⟩⟩
    have u2 := Same.upd (o := .tup [V.int 3, V.int 4]) hpt
    have et : upd H12 pt (.tup [V.int 3, V.int 4]) pt = some (.tup [V.int 3, V.int 4]) := upd_same
    replace hO := hO.same u2
    replace hX := hX.same u2
    replace hY := hY.same u2
    replace hW := hW.same u2
    generalize upd H12 pt (.tup [V.int 3, V.int 4]) = H13 at et hO hX hY hW
    clear u2 hpt
    refine lp_tup (K := K) (xs := [V.int 3, V.int 4]) (small_ln (by decide)) (fun j zs H' => Same H13 H' ∧ IsAll H' zs (List.replicate j (refD 0))) ⟨Same.refl _, .nil⟩ (by rintro j zs H' ⟨_, h⟩; rw [h.length, List.length_replicate]; exact Nat.le_refl _) (fun j zs H' _ h => SqT.of (h.1 _ _ et)) ?_ ?_
    · rintro j x zs H14 hx ⟨s14, iz⟩
      obtain ⟨k, rfl, hk⟩ := three_four hx
      walk_at "rd"
      refine ⟨_, _, _, ordD n ps, dd, rfl, hX.same s14, ho.okd, hO.same s14, .inr (.inl ⟨hk, ho.yes, hko, hdd, fun v H15 s15 iv => ⟨s14.trans s15, ?_⟩⟩)⟩
      rw [List.replicate_succ']
      exact (iz.same s15).append (.cons iv .nil)
    rintro zs H14 ⟨s14, iz⟩ c1 hc1
    have u1 := Same.upd (o := .lst zs) hc1
    have i1 := iz.same u1
    have k1 : upd H14 c1 (.lst zs) c1 = some (.lst zs) := upd_same
    replace s14 := s14.trans u1
    generalize upd H14 c1 (.lst zs) = H15 at s14 i1 k1
    clear u1 hc1 iz
    walk_at "rd"
    refine ⟨by show 2 ≤ sizeLine; decide, fun pa2 hpa2 => ?_⟩
    have ta2 := Same.upd (o := .tup [V.str "refused", V.int 0]) hpa2
    walk_at "rd"
    refine ⟨by show 1 ≤ sizeLine; decide, fun pb2 hpb2 => ?_⟩
    have tb2 := Same.upd (o := .lst [V.ref pa2]) hpb2
    walk_at "rd"
    refine rd_rep (n := 2) upd_same (by decide) fun pc2 hpc2 => ?_
    have tc2 := Same.upd (o := .lst (List.replicate 2 (V.ref pa2))) hpc2
    have td2 := (ta2.trans tb2).trans tc2
    have ia2 : IsAll (upd (upd (upd H15 pa2 (.tup [V.str "refused", V.int 0])) pb2 (.lst [V.ref pa2])) pc2 (.lst (List.replicate 2 (V.ref pa2)))) (List.replicate 2 (V.ref pa2)) (List.replicate 2 (refD 0)) := isAll_rep (.tup (tc2 _ _ (tb2 _ _ upd_same)) (.cons (.str _) (.cons (.int _) .nil))) _
    refine rd_eqD (d := .list (List.replicate 2 (refD 0))) (e := .list (List.replicate 2 (refD 0))) (.lst (Rd.of (td2 _ _ k1)) (i1.same td2)) (.lst (Rd.of upd_same) ia2) (ok_refs 2 0) (ok_refs 2 0) ?_
    rw [eqv_refs]
    replace s14 := s14.trans td2
    generalize upd (upd (upd H15 pa2 (.tup [V.str "refused", V.int 0])) pb2 (.lst [V.ref pa2])) pc2 (.lst (List.replicate 2 (V.ref pa2))) = H16 at s14
    replace hX := hX.same s14
    replace hY := hY.same s14
    replace hW := hW.same s14
    clear s14 td2 ta2 tb2 tc2 ia2 i1 k1 hO et
    walk_at "rd"
    refine ifF rfl ?_
    walk_at "rd"
    refine ⟨_, _, _, ordD n ps, dw, rfl, hX, ho.okd, hW, .inr (.inr (.inl ⟨rfl, n, ps, rfl, ho, nW, fun v H17 s17 iv => ?_⟩))⟩
    walk_at "rd"
    refine ⟨by show 2 ≤ sizeLine; decide, fun pd hpd => ?_⟩
    have u3 := Same.upd (o := .tup [V.str "refused", V.int 9]) hpd
    refine rd_eqD (d := refD 9) (e := refD 9) (iv.same u3) (.tup upd_same (.cons (.str _) (.cons (.int _) .nil))) (ok_ref 9) (ok_ref 9) ?_
    rw [eqv_ref]
    have s18 := s17.trans u3
    generalize upd H17 pd (.tup [V.str "refused", V.int 9]) = H18 at s18
    replace hX := hX.same s18
    replace hY := hY.same s18
    replace hW := hW.same s18
    clear s17 s18 u3 iv
    walk_at "rd"
    refine ifF rfl ?_
    walk_at "rd"
    refine ⟨_, _, _, ordD n ps, dw, rfl, hX, ho.okd, hW, .inr (.inr (.inr (.inl ⟨rfl, n, ps, rfl, ho, wW, fun v H17 s17 iv => ?_⟩)))⟩
    walk_at "rd"
    refine ⟨by show 2 ≤ sizeLine; decide, fun pd hpd => ?_⟩
    have u3 := Same.upd (o := .tup [V.str "refused", V.int 3]) hpd
    refine rd_eqD (d := refD 3) (e := refD 3) (iv.same u3) (.tup upd_same (.cons (.str _) (.cons (.int _) .nil))) (ok_ref 3) (ok_ref 3) ?_
    rw [eqv_ref]
    have s18 := s17.trans u3
    generalize upd H17 pd (.tup [V.str "refused", V.int 3]) = H18 at s18
    replace hX := hX.same s18
    replace hY := hY.same s18
    clear s17 s18 u3 iv hW
    walk_at "rd"
    refine ifF rfl ?_
    walk_at "rd"
    refine ⟨two_ln, fun pt hpt => ⟨pt, rfl, ⟨_, SqT.of upd_same⟩, ?_⟩⟩
    have u2 := Same.upd (o := .tup [V.int 3, V.int 4]) hpt
    have et : upd H18 pt (.tup [V.int 3, V.int 4]) pt = some (.tup [V.int 3, V.int 4]) := upd_same
    replace hX := hX.same u2
    replace hY := hY.same u2
    generalize upd H18 pt (.tup [V.int 3, V.int 4]) = H19 at et hX hY
    clear u2 hpt
    refine lp_tup (K := K) (xs := [V.int 3, V.int 4]) (small_ln (by decide)) (fun j zs H' => Same H19 H' ∧ ∃ ds, ds.length = j ∧ IsAll H' zs ds ∧ (8 < n + m → ds = List.replicate j (refD 7)) ∧ (n + m ≤ 8 → ∀ d ∈ ds, ∃ rs, d = ordD (n + m) rs)) ⟨Same.refl _, [], rfl, .nil, fun _ => rfl, fun _ _ h => nomatch h⟩ (by rintro j zs H' ⟨_, ds, l, h, _⟩; rw [h.length, l]; exact Nat.le_refl _) (fun j zs H' _ h => SqT.of (h.1 _ _ et)) ?_ ?_
    · rintro j x zs H20 hx ⟨s20, ds, ld, iz, r1, r2⟩
      obtain ⟨k, rfl, hk⟩ := three_four hx
      walk_at "rd"
      refine ⟨_, _, _, ordD n ps, ordD m qs, rfl, hX.same s20, ho.okd, hY.same s20, .inr (.inr (.inr (.inr ⟨hk, n, m, ps, qs, rfl, ho, rfl, hp, fun g v H21 s21 iv => ?_, fun g v H21 rs s21 iv => ?_⟩)))⟩
      · refine ⟨s20.trans s21, ds ++ [refD 7], by rw [List.length_append, ld]; rfl, (iz.same s21).append (.cons iv .nil), fun _ => by rw [r1 g, List.replicate_succ'], fun z => absurd g (by omega)⟩
      · refine ⟨s20.trans s21, ds ++ [ordD (n + m) rs], by rw [List.length_append, ld]; rfl, (iz.same s21).append (.cons iv .nil), fun z => absurd g (by omega), fun _ d hd => ?_⟩
        rcases List.mem_append.mp hd with hd | hd
        · exact r2 g d hd
        · exact ⟨rs, List.mem_singleton.mp hd⟩
    rintro zs H20 ⟨s20, ds, ld, iz, r1, r2⟩ c1 hc1
    have u1 := Same.upd (o := .lst zs) hc1
    have i1 := iz.same u1
    have k1 : upd H20 c1 (.lst zs) c1 = some (.lst zs) := upd_same
    replace s20 := s20.trans u1
    generalize upd H20 c1 (.lst zs) = H21 at s20 i1 k1
    clear u1 hc1 iz
    walk_at "rd"
    refine ⟨by show 2 ≤ sizeLine; decide, fun pa3 hpa3 => ?_⟩
    have ta3 := Same.upd (o := .tup [V.str "refused", V.int 7]) hpa3
    walk_at "rd"
    refine ⟨by show 1 ≤ sizeLine; decide, fun pb3 hpb3 => ?_⟩
    have tb3 := Same.upd (o := .lst [V.ref pa3]) hpb3
    walk_at "rd"
    refine rd_rep (n := 2) upd_same (by decide) fun pc3 hpc3 => ?_
    have tc3 := Same.upd (o := .lst (List.replicate 2 (V.ref pa3))) hpc3
    have td3 := (ta3.trans tb3).trans tc3
    have ia3 : IsAll (upd (upd (upd H21 pa3 (.tup [V.str "refused", V.int 7])) pb3 (.lst [V.ref pa3])) pc3 (.lst (List.replicate 2 (V.ref pa3)))) (List.replicate 2 (V.ref pa3)) (List.replicate 2 (refD 7)) := isAll_rep (.tup (tc3 _ _ (tb3 _ _ upd_same)) (.cons (.str _) (.cons (.int _) .nil))) _
    have low : ∀ d ∈ ds, lowD d := fun d hd => by
      by_cases g : 8 < n + m
      · rw [r1 g] at hd
        rw [List.eq_of_mem_replicate hd]
        exact low_ref 7
      · obtain ⟨rs, rfl⟩ := r2 (by omega) d hd
        exact low_ord _ _
    have eqd : PyData.eqv (.list ds) (.list (List.replicate 2 (refD 7))) = decide (8 < n + m) := by
      by_cases g : 8 < n + m
      · rw [r1 g, decide_eq_true g]
        exact eqv_refs 2 7
      · rw [decide_eq_false g]
        match ds, ld with
        | [d1, d2], _ =>
          obtain ⟨rs, rfl⟩ := r2 (by omega) d1 List.mem_cons_self
          rw [PyData.eqv, List.replicate_succ, PyData.eqvAll, eqv_or]
          rfl
    refine rd_eqD (d := .list ds) (e := .list (List.replicate 2 (refD 7))) (.lst (Rd.of (td3 _ _ k1)) (i1.same td3)) (.lst (Rd.of upd_same) ia3) (ok_list low) (ok_refs 2 7) ?_
    rw [eqd]
    replace s20 := s20.trans td3
    generalize upd (upd (upd H21 pa3 (.tup [V.str "refused", V.int 7])) pb3 (.lst [V.ref pa3])) pc3 (.lst (List.replicate 2 (V.ref pa3))) = H22 at s20
    have hY2 := hY.same s20
    obtain ⟨oc', oe', ys', e0, ec2, ed2, hys2⟩ := is_ord hY2
    cases e0
    walk_at "rd"
    have ef : (decide (8 < n + m) == decide (8 < (n : Int) + m)) = true := by
      rw [beq_iff_eq, decide_eq_decide]
      omega
    show Q (.bl (decide (8 < n + m) == decide (8 < (n : Int) + m))) _
    rw [ef]
    exact q _
end
end My

set_option Elab.async false
set_option linter.all false
set_option maxRecDepth 100000
set_option maxHeartbeats 4000000
namespace My
open PySem L2
theorem of0 {P : List Value → Prop} (h : P []) (us : List Value) (e : us.length = 0) : P us := by
  cases us with
  | nil => exact h
  | cons a us => cases e
theorem of1 {P : List Value → Prop} (h : ∀ a, P [a]) (us : List Value) (e : us.length = 1) : P us := by
  cases us with
  | nil => cases e
  | cons a us => exact of0 (P := fun us => P (a :: us)) (h a) us (Nat.succ.inj e)
theorem of2 {P : List Value → Prop} (h : ∀ a b, P [a, b]) (us : List Value) (e : us.length = 2) : P us := by
  cases us with
  | nil => cases e
  | cons a us => exact of1 (P := fun us => P (a :: us)) (h a) us (Nat.succ.inj e)
theorem of3 {P : List Value → Prop} (h : ∀ a b c, P [a, b, c]) (us : List Value) (e : us.length = 3) : P us := by
  cases us with
  | nil => cases e
  | cons a us => exact of2 (P := fun us => P (a :: us)) (h a) us (Nat.succ.inj e)
theorem of4 {P : List Value → Prop} (h : ∀ a b c d, P [a, b, c, d]) (us : List Value) (e : us.length = 4) : P us := by
  cases us with
  | nil => cases e
  | cons a us => exact of3 (P := fun us => P (a :: us)) (h a) us (Nat.succ.inj e)
theorem of5 {P : List Value → Prop} (h : ∀ a b c d f, P [a, b, c, d, f]) (us : List Value) (e : us.length = 5) : P us := by
  cases us with
  | nil => cases e
  | cons a us => exact of4 (P := fun us => P (a :: us)) (h a) us (Nat.succ.inj e)
theorem mkF {K : PySem.W.Frag} {h : Heap} {mg : Str → Option Value} (X : K.In h) (G : h.Ns mainGlobals mg) {f : Str} {st : Stmt} {ps : List Str} {a : Addr} {od an : Option Addr} {sl : Array (Option Value)} {oc kV dc pm cd ct : Value}
    (hb : ∀ (kV doc pm : Value) (an : Option Addr) (cdv ct : Value) (us : List Value), us.length = ps.length → bindArgs (PySem.W.fnOf f f (defArgs st) (defBody st) (defScope st) .none kV doc pm an cdv ct) ⟨us, []⟩ = pure (ps.zip us))
    (e : PySem.W.nsIn K mainGlobals f = some (some (.ref a))) (l : K.lookup a = some ⟨oc, od, .func (PySem.W.fnOf f f (defArgs st) (defBody st) (defScope st) .none kV dc pm an cd ct), sl⟩) (c : PySem.W.codeIn K cd f = true) (k : PySem.W.keepIn K (.ref a) = true) :
    ∃ a d, mg f = some (.ref a) ∧ Fun K f f st a d ∧ Binds K d ps [] := by
  have F := fun_mk (st := st) l c k
  exact ⟨a, _, PySem.W.mg_of X G e, F, F.binds hb⟩
theorem mkN {K : PySem.W.Frag} {h : Heap} {mg : Str → Option Value} (X : K.In h) (G : h.Ns mainGlobals mg) {f : Str} (e : PySem.W.nsIn K mainGlobals f = some none) : mg f = none := PySem.W.mg_none_of X G e
theorem mkM {K : PySem.W.Frag} {h : Heap} {mg : Str → Option Value} (X : K.In h) (G : h.Ns mainGlobals mg) {f : Str} {C : Addr} (e : PySem.W.nsIn K mainGlobals f = some (some (.ref C))) : mg f = some (.ref C) := PySem.W.mg_of X G e
theorem mkC {K : PySem.W.Frag} {h : Heap} {mg : Str → Option Value} (X : K.In h) (G : h.Ns mainGlobals mg) {f : Str} {n : Int} {tk : Tok} (e : PySem.W.nsIn K mainGlobals f = some (some (.int n tk))) : ∃ tk, mg f = some (.int n tk) := ⟨tk, PySem.W.mg_of X G e⟩
theorem mkS {K : PySem.W.Frag} {h : Heap} {mg : Str → Option Value} (X : K.In h) (G : h.Ns mainGlobals mg) {f z : Str} {tk : Tok} (e : PySem.W.nsIn K mainGlobals f = some (some (.str z tk))) : ∃ tk, mg f = some (.str z tk) := ⟨tk, PySem.W.mg_of X G e⟩
theorem law_binds {K : PySem.W.Frag} {a : Addr} {fd : FuncData} (F : Fun K "law" "law" s_law a fd) (s : Shared) (v : Value) : BindsTo s fd ⟨[v], []⟩ [("_law_script", v)] := by
  obtain ⟨oc, od, kV, doc, pm, an, cdv, ct, osl, rfl, lk, hcd⟩ := F.ex
  exact .of_eq rfl
theorem walk {l : PySem.W.OpenLaw} {q : Program} {loose : List Str} {XP : (Str → Option Value) → Heap → Prop} {YP : World → Heap → Prop} {d : DefRec} {K : Params → PySem.W.Frag} (hn : l.most = some 63) (hdf : d.params.defaults = [])
    (hY : ∀ (w : World) (h : Heap), YP w h → (K w.params).In h)
    (F : ∀ (w : World) (mg : Str → Option Value) (fa : Addr) (h : Heap), (K w.params).In h → h.Ns mainGlobals mg → mg d.name = some (.ref fa) →
      ∃ fd : FuncData, (∀ (s : Shared) (u : Value), BindsTo s fd ⟨[u], []⟩ [("_law_script", u)]) ∧ ∀ base : Heap, (K w.params).In base → base.Ns mainGlobals mg → FnOk l.prog w (K w.params) mg base CX0 9 fa fd ["_law_script"] (spLaw (K w.params))) :
    PySem.W.WalkO q loose XP YP l.row.toRowW d [] (fun f vs => PySem.call f vs) :=
  L2.walk_of (n := 63) (k := 9) (x := "_law_script") (CX := fun _ => CX0) (sp := fun w => spLaw (K w.params)) hn (by decide) hdf ⟨rfl, by decide, by decide⟩ hY F (fun _ _ a ns _ hO hS => ⟨a, ns, rfl, Scr.of hO hS, fun _ => rfl⟩) fun _ _ _ _ _ z => z
end My
open PySem PySem.W PyProof.Rows
def PySem.W.Fast.tw10919475656478747139 : Nat := 0
def PySem.W.Fast.tw5677607726428256340 : Nat := 0
def PySem.W.Fast.tw14768189527686311288 : Nat := 0
def PySem.W.Fast.tw8128687002380545412 : Nat := 0
def PySem.W.Fast.tw7224150643149212889 : Nat := 0
def PySem.W.Fast.tw6793497797305327666 : Nat := 0
def PySem.W.Fast.tw9101152447449013635 : Nat := 0
def PySem.W.Fast.tw2663839263668976826 : Nat := 0
def PySem.W.Fast.tw13957350517716569971 : Nat := 0
def PySem.W.Fast.tw14015169235211352294 : Nat := 0
def PySem.W.Fast.tw17532226813885332580 : Nat := 0
def PySem.W.Fast.tw2680470251788297166 : Nat := 0
def PySem.W.Fast.tw3729791473479950433 : Nat := 0
def PySem.W.Fast.tw8061330154459356551 : Nat := 0
def PySem.W.Fast.tw2990158434803804414 : Nat := 0
def PySem.W.Fast.tw14388293417860325130 : Nat := 0
def PySem.W.Fast.tw1238274904332432301 : Nat := 0
def PySem.W.Fast.tw12955759216852836094 : Nat := 0
def PySem.W.Fast.tw17212511902496429402 : Nat := 0
def PySem.W.Fast.tw11832054714335108243 : Nat := 0
def PySem.W.Fast.tw11259701958042441853 : Nat := 0
def PySem.W.Fast.tw4049749082131057641 : Nat := 0
def PySem.W.Fast.tw9121217702216244995 : Nat := 0
def PySem.W.Fast.tw10821183292714002456 : Nat := 0
def PySem.W.Fast.tw5151450191364595790 : Nat := 0
def PySem.W.Fast.tw1309131873123464244 : Nat := 0
def PySem.W.Fast.tw7929835873639521154 : Nat := 0
def PySem.W.Fast.tw1776599964596495615 : Nat := 0
def PySem.W.Fast.tw6336518531353865977 : Nat := 0
def PySem.W.Fast.tw4189050649016354592 : Nat := 0
def PySem.W.Fast.tw14736347311202766540 : Nat := 0
def PySem.W.Fast.tw5038437057868322516 : Nat := 0
def PySem.W.Fast.tw10499232211632306477 : Nat := 0
def PySem.W.Fast.tw621329543526733492 : Nat := 0
def PySem.W.Fast.tw10893090634260546709 : Nat := 0
def PySem.W.Fast.tw4794457013532416228 : Nat := 0
def PySem.W.Fast.tw12717919910449082671 : Nat := 0
set_option maxRecDepth 100000 in
set_option maxHeartbeats 0 in
theorem PySem.Challenge.cw_noticed_k13_changes_refused_holds : PySem.Challenge.rw_noticed_k13_changes_refused.Holds := by
  w_on; o_law; k_head; (case hw => w_witness2)
  k_fill
  refine My.walk (l := PySem.Challenge.rw_noticed_k13_changes_refused) rfl rfl (fun w h Y => PySem.W.kIn_of Y) ?F
  case F =>
    intro w mg fa h KX G hmg
    have TS : (∃ a d, mg "is_whole" = some (PySem.Value.ref a) ∧ L2.Fun (L2.KOf KX) "is_whole" "is_whole" My.s_is_whole a d ∧ L2.Binds (L2.KOf KX) d ["value", "low", "high"] []) ∧ (∃ a d, mg "is_thing" = some (PySem.Value.ref a) ∧ L2.Fun (L2.KOf KX) "is_thing" "is_thing" My.s_is_thing a d ∧ L2.Binds (L2.KOf KX) d ["value", "many"] []) ∧ (∃ a d, mg "is_pair" = some (PySem.Value.ref a) ∧ L2.Fun (L2.KOf KX) "is_pair" "is_pair" My.s_is_pair a d ∧ L2.Binds (L2.KOf KX) d ["value", "many"] []) ∧ (∃ a d, mg "is_rising" = some (PySem.Value.ref a) ∧ L2.Fun (L2.KOf KX) "is_rising" "is_rising" My.s_is_rising a d ∧ L2.Binds (L2.KOf KX) d ["pairs"] []) ∧ (∃ a d, mg "is_order" = some (PySem.Value.ref a) ∧ L2.Fun (L2.KOf KX) "is_order" "is_order" My.s_is_order a d ∧ L2.Binds (L2.KOf KX) d ["value"] []) ∧ (∃ a d, mg "is_names" = some (PySem.Value.ref a) ∧ L2.Fun (L2.KOf KX) "is_names" "is_names" My.s_is_names a d ∧ L2.Binds (L2.KOf KX) d ["value", "many"] []) ∧ (∃ a d, mg "need_order" = some (PySem.Value.ref a) ∧ L2.Fun (L2.KOf KX) "need_order" "need_order" My.s_need_order a d ∧ L2.Binds (L2.KOf KX) d ["value"] []) ∧ (∃ a d, mg "need_thing" = some (PySem.Value.ref a) ∧ L2.Fun (L2.KOf KX) "need_thing" "need_thing" My.s_need_thing a d ∧ L2.Binds (L2.KOf KX) d ["value", "many"] []) ∧ (∃ a d, mg "need_names" = some (PySem.Value.ref a) ∧ L2.Fun (L2.KOf KX) "need_names" "need_names" My.s_need_names a d ∧ L2.Binds (L2.KOf KX) d ["value", "many"] []) ∧ (∃ a d, mg "turned" = some (PySem.Value.ref a) ∧ L2.Fun (L2.KOf KX) "turned" "turned" My.s_turned a d ∧ L2.Binds (L2.KOf KX) d ["order"] []) ∧ (∃ a d, mg "renamed" = some (PySem.Value.ref a) ∧ L2.Fun (L2.KOf KX) "renamed" "renamed" My.s_renamed a d ∧ L2.Binds (L2.KOf KX) d ["order", "names"] []) ∧ (∃ a d, mg "number_without" = some (PySem.Value.ref a) ∧ L2.Fun (L2.KOf KX) "number_without" "number_without" My.s_number_without a d ∧ L2.Binds (L2.KOf KX) d ["thing", "left_out"] []) ∧ (∃ a d, mg "without" = some (PySem.Value.ref a) ∧ L2.Fun (L2.KOf KX) "without" "without" My.s_without a d ∧ L2.Binds (L2.KOf KX) d ["order", "thing"] []) ∧ (∃ a d, mg "need_room" = some (PySem.Value.ref a) ∧ L2.Fun (L2.KOf KX) "need_room" "need_room" My.s_need_room a d ∧ L2.Binds (L2.KOf KX) d ["one", "other"] []) ∧ (∃ a d, mg "pairs_of_both" = some (PySem.Value.ref a) ∧ L2.Fun (L2.KOf KX) "pairs_of_both" "pairs_of_both" My.s_pairs_of_both a d ∧ L2.Binds (L2.KOf KX) d ["one", "other"] []) ∧ (∃ a d, mg "pairs_across" = some (PySem.Value.ref a) ∧ L2.Fun (L2.KOf KX) "pairs_across" "pairs_across" My.s_pairs_across a d ∧ L2.Binds (L2.KOf KX) d ["one", "other"] []) ∧ (∃ a d, mg "joined" = some (PySem.Value.ref a) ∧ L2.Fun (L2.KOf KX) "joined" "joined" My.s_joined a d ∧ L2.Binds (L2.KOf KX) d ["one", "other"] []) ∧ (∃ a d, mg "laid" = some (PySem.Value.ref a) ∧ L2.Fun (L2.KOf KX) "laid" "laid" My.s_laid a d ∧ L2.Binds (L2.KOf KX) d ["one", "other"] []) ∧ (∃ a d, mg "_law_cell_at" = some (PySem.Value.ref a) ∧ L2.Fun (L2.KOf KX) "_law_cell_at" "_law_cell_at" My.s__law_cell_at a d ∧ L2.Binds (L2.KOf KX) d ["_law_script", "_law_k"] []) ∧ (∃ a d, mg "_law_mixed" = some (PySem.Value.ref a) ∧ L2.Fun (L2.KOf KX) "_law_mixed" "_law_mixed" My.s__law_mixed a d ∧ L2.Binds (L2.KOf KX) d ["_law_script", "_law_k", "_law_many"] []) ∧ (∃ a d, mg "_law_draw" = some (PySem.Value.ref a) ∧ L2.Fun (L2.KOf KX) "_law_draw" "_law_draw" My.s__law_draw a d ∧ L2.Binds (L2.KOf KX) d ["_law_script", "_law_town", "_law_many"] []) ∧ (∃ a d, mg "_law_pick" = some (PySem.Value.ref a) ∧ L2.Fun (L2.KOf KX) "_law_pick" "_law_pick" My.s__law_pick a d ∧ L2.Binds (L2.KOf KX) d ["_law_script", "_law_town", "_law_some"] []) ∧ (∃ a d, mg "_law_free" = some (PySem.Value.ref a) ∧ L2.Fun (L2.KOf KX) "_law_free" "_law_free" My.s__law_free a d ∧ L2.Binds (L2.KOf KX) d ["_law_script", "_law_town", "_law_low", "_law_most"] []) ∧ (∃ a d, mg "_law_any" = some (PySem.Value.ref a) ∧ L2.Fun (L2.KOf KX) "_law_any" "_law_any" My.s__law_any a d ∧ L2.Binds (L2.KOf KX) d ["_law_script", "_law_town", "_law_low", "_law_most"] []) ∧ (∃ a d, mg "_law_odd" = some (PySem.Value.ref a) ∧ L2.Fun (L2.KOf KX) "_law_odd" "_law_odd" My.s__law_odd a d ∧ L2.Binds (L2.KOf KX) d ["_law_script", "_law_town"] []) ∧ (∃ a d, mg "_law_which" = some (PySem.Value.ref a) ∧ L2.Fun (L2.KOf KX) "_law_which" "_law_which" My.s__law_which a d ∧ L2.Binds (L2.KOf KX) d ["_law_e"] []) ∧ (∃ a d, mg "_law_ask" = some (PySem.Value.ref a) ∧ L2.Fun (L2.KOf KX) "_law_ask" "_law_ask" My.s__law_ask a d ∧ L2.Binds (L2.KOf KX) d ["_law_what", "_law_one", "_law_other"] []) ∧ (∃ a d, mg "law" = some (PySem.Value.ref a) ∧ L2.Fun (L2.KOf KX) "law" "law" My.s_law a d ∧ L2.Binds (L2.KOf KX) d ["_law_script"] []) ∧ (mg "ValueError" = none) ∧ (mg "all" = none) ∧ (mg "bool" = none) ∧ (mg "int" = none) ∧ (mg "isinstance" = none) ∧ (mg "len" = none) ∧ (mg "list" = none) ∧ (mg "range" = none) ∧ (mg "sorted" = none) ∧ (mg "tuple" = none) ∧ (∃ c_Barred c_Full c_NoCount c_NoNames c_NoNumbers c_NoOrder c_NoRow c_NoSeveral c_NoStep c_NoTelling c_NoText c_NoThing c_Nothing c_OrderError : PySem.Addr, My.XF (L2.KOf KX) mg c_Barred c_Full c_NoCount c_NoNames c_NoNumbers c_NoOrder c_NoRow c_NoSeveral c_NoStep c_NoTelling c_NoText c_NoThing c_Nothing c_OrderError) ∧ (∃ tk, mg "MOST_THINGS" = some (PySem.Value.int 8 tk)) := by
      refine' ⟨?t0, ?t1, ?t2, ?t3, ?t4, ?t5, ?t6, ?t7, ?t8, ?t9, ?t10, ?t11, ?t12, ?t13, ?t14, ?t15, ?t16, ?t17, ?t18, ?t19, ?t20, ?t21, ?t22, ?t23, ?t24, ?t25, ?t26, ?t27, ?t28, ?t29, ?t30, ?t31, ?t32, ?t33, ?t34, ?t35, ?t36, ?t37, ?t38, ?t39⟩
      case t0 =>
        dsimp only [L2.KOf]
        refine' My.mkF KX G ?hb ?e ?l ?c ?k
        (case hb => exact fun _ _ _ _ _ _ => My.of3 (fun _ _ _ => rfl))
        (case e => k_is); (case l => k_is); (case c => k_is); (case k => k_is)
      case t1 =>
        dsimp only [L2.KOf]
        refine' My.mkF KX G ?hb ?e ?l ?c ?k
        (case hb => exact fun _ _ _ _ _ _ => My.of2 (fun _ _ => rfl))
        (case e => k_is); (case l => k_is); (case c => k_is); (case k => k_is)
      case t2 =>
        dsimp only [L2.KOf]
        refine' My.mkF KX G ?hb ?e ?l ?c ?k
        (case hb => exact fun _ _ _ _ _ _ => My.of2 (fun _ _ => rfl))
        (case e => k_is); (case l => k_is); (case c => k_is); (case k => k_is)
      case t3 =>
        dsimp only [L2.KOf]
        refine' My.mkF KX G ?hb ?e ?l ?c ?k
        (case hb => exact fun _ _ _ _ _ _ => My.of1 (fun _ => rfl))
        (case e => k_is); (case l => k_is); (case c => k_is); (case k => k_is)
      case t4 =>
        dsimp only [L2.KOf]
        refine' My.mkF KX G ?hb ?e ?l ?c ?k
        (case hb => exact fun _ _ _ _ _ _ => My.of1 (fun _ => rfl))
        (case e => k_is); (case l => k_is); (case c => k_is); (case k => k_is)
      case t5 =>
        dsimp only [L2.KOf]
        refine' My.mkF KX G ?hb ?e ?l ?c ?k
        (case hb => exact fun _ _ _ _ _ _ => My.of2 (fun _ _ => rfl))
        (case e => k_is); (case l => k_is); (case c => k_is); (case k => k_is)
      case t6 =>
        dsimp only [L2.KOf]
        refine' My.mkF KX G ?hb ?e ?l ?c ?k
        (case hb => exact fun _ _ _ _ _ _ => My.of1 (fun _ => rfl))
        (case e => k_is); (case l => k_is); (case c => k_is); (case k => k_is)
      case t7 =>
        dsimp only [L2.KOf]
        refine' My.mkF KX G ?hb ?e ?l ?c ?k
        (case hb => exact fun _ _ _ _ _ _ => My.of2 (fun _ _ => rfl))
        (case e => k_is); (case l => k_is); (case c => k_is); (case k => k_is)
      case t8 =>
        dsimp only [L2.KOf]
        refine' My.mkF KX G ?hb ?e ?l ?c ?k
        (case hb => exact fun _ _ _ _ _ _ => My.of2 (fun _ _ => rfl))
        (case e => k_is); (case l => k_is); (case c => k_is); (case k => k_is)
      case t9 =>
        dsimp only [L2.KOf]
        refine' My.mkF KX G ?hb ?e ?l ?c ?k
        (case hb => exact fun _ _ _ _ _ _ => My.of1 (fun _ => rfl))
        (case e => k_is); (case l => k_is); (case c => k_is); (case k => k_is)
      case t10 =>
        dsimp only [L2.KOf]
        refine' My.mkF KX G ?hb ?e ?l ?c ?k
        (case hb => exact fun _ _ _ _ _ _ => My.of2 (fun _ _ => rfl))
        (case e => k_is); (case l => k_is); (case c => k_is); (case k => k_is)
      case t11 =>
        dsimp only [L2.KOf]
        refine' My.mkF KX G ?hb ?e ?l ?c ?k
        (case hb => exact fun _ _ _ _ _ _ => My.of2 (fun _ _ => rfl))
        (case e => k_is); (case l => k_is); (case c => k_is); (case k => k_is)
      case t12 =>
        dsimp only [L2.KOf]
        refine' My.mkF KX G ?hb ?e ?l ?c ?k
        (case hb => exact fun _ _ _ _ _ _ => My.of2 (fun _ _ => rfl))
        (case e => k_is); (case l => k_is); (case c => k_is); (case k => k_is)
      case t13 =>
        dsimp only [L2.KOf]
        refine' My.mkF KX G ?hb ?e ?l ?c ?k
        (case hb => exact fun _ _ _ _ _ _ => My.of2 (fun _ _ => rfl))
        (case e => k_is); (case l => k_is); (case c => k_is); (case k => k_is)
      case t14 =>
        dsimp only [L2.KOf]
        refine' My.mkF KX G ?hb ?e ?l ?c ?k
        (case hb => exact fun _ _ _ _ _ _ => My.of2 (fun _ _ => rfl))
        (case e => k_is); (case l => k_is); (case c => k_is); (case k => k_is)
      case t15 =>
        dsimp only [L2.KOf]
        refine' My.mkF KX G ?hb ?e ?l ?c ?k
        (case hb => exact fun _ _ _ _ _ _ => My.of2 (fun _ _ => rfl))
        (case e => k_is); (case l => k_is); (case c => k_is); (case k => k_is)
      case t16 =>
        dsimp only [L2.KOf]
        refine' My.mkF KX G ?hb ?e ?l ?c ?k
        (case hb => exact fun _ _ _ _ _ _ => My.of2 (fun _ _ => rfl))
        (case e => k_is); (case l => k_is); (case c => k_is); (case k => k_is)
      case t17 =>
        dsimp only [L2.KOf]
        refine' My.mkF KX G ?hb ?e ?l ?c ?k
        (case hb => exact fun _ _ _ _ _ _ => My.of2 (fun _ _ => rfl))
        (case e => k_is); (case l => k_is); (case c => k_is); (case k => k_is)
      case t18 =>
        dsimp only [L2.KOf]
        refine' My.mkF KX G ?hb ?e ?l ?c ?k
        (case hb => exact fun _ _ _ _ _ _ => My.of2 (fun _ _ => rfl))
        (case e => k_is); (case l => k_is); (case c => k_is); (case k => k_is)
      case t19 =>
        dsimp only [L2.KOf]
        refine' My.mkF KX G ?hb ?e ?l ?c ?k
        (case hb => exact fun _ _ _ _ _ _ => My.of3 (fun _ _ _ => rfl))
        (case e => k_is); (case l => k_is); (case c => k_is); (case k => k_is)
      case t20 =>
        dsimp only [L2.KOf]
        refine' My.mkF KX G ?hb ?e ?l ?c ?k
        (case hb => exact fun _ _ _ _ _ _ => My.of3 (fun _ _ _ => rfl))
        (case e => k_is); (case l => k_is); (case c => k_is); (case k => k_is)
      case t21 =>
        dsimp only [L2.KOf]
        refine' My.mkF KX G ?hb ?e ?l ?c ?k
        (case hb => exact fun _ _ _ _ _ _ => My.of3 (fun _ _ _ => rfl))
        (case e => k_is); (case l => k_is); (case c => k_is); (case k => k_is)
      case t22 =>
        dsimp only [L2.KOf]
        refine' My.mkF KX G ?hb ?e ?l ?c ?k
        (case hb => exact fun _ _ _ _ _ _ => My.of4 (fun _ _ _ _ => rfl))
        (case e => k_is); (case l => k_is); (case c => k_is); (case k => k_is)
      case t23 =>
        dsimp only [L2.KOf]
        refine' My.mkF KX G ?hb ?e ?l ?c ?k
        (case hb => exact fun _ _ _ _ _ _ => My.of4 (fun _ _ _ _ => rfl))
        (case e => k_is); (case l => k_is); (case c => k_is); (case k => k_is)
      case t24 =>
        dsimp only [L2.KOf]
        refine' My.mkF KX G ?hb ?e ?l ?c ?k
        (case hb => exact fun _ _ _ _ _ _ => My.of2 (fun _ _ => rfl))
        (case e => k_is); (case l => k_is); (case c => k_is); (case k => k_is)
      case t25 =>
        dsimp only [L2.KOf]
        refine' My.mkF KX G ?hb ?e ?l ?c ?k
        (case hb => exact fun _ _ _ _ _ _ => My.of1 (fun _ => rfl))
        (case e => k_is); (case l => k_is); (case c => k_is); (case k => k_is)
      case t26 =>
        dsimp only [L2.KOf]
        refine' My.mkF KX G ?hb ?e ?l ?c ?k
        (case hb => exact fun _ _ _ _ _ _ => My.of3 (fun _ _ _ => rfl))
        (case e => k_is); (case l => k_is); (case c => k_is); (case k => k_is)
      case t27 =>
        dsimp only [L2.KOf]
        refine' My.mkF KX G ?hb ?e ?l ?c ?k
        (case hb => exact fun _ _ _ _ _ _ => My.of1 (fun _ => rfl))
        (case e => k_is); (case l => k_is); (case c => k_is); (case k => k_is)
      case t28 =>
        refine' My.mkN KX G ?e
        (case e => k_is)
      case t29 =>
        refine' My.mkN KX G ?e
        (case e => k_is)
      case t30 =>
        refine' My.mkN KX G ?e
        (case e => k_is)
      case t31 =>
        refine' My.mkN KX G ?e
        (case e => k_is)
      case t32 =>
        refine' My.mkN KX G ?e
        (case e => k_is)
      case t33 =>
        refine' My.mkN KX G ?e
        (case e => k_is)
      case t34 =>
        refine' My.mkN KX G ?e
        (case e => k_is)
      case t35 =>
        refine' My.mkN KX G ?e
        (case e => k_is)
      case t36 =>
        refine' My.mkN KX G ?e
        (case e => k_is)
      case t37 =>
        refine' My.mkN KX G ?e
        (case e => k_is)
      case t38 =>
        dsimp only [L2.KOf]
        refine' ⟨_, _, _, _, _, _, _, _, _, _, _, _, _, _, My.XF.mk (My.mkM KX G ?kg0) (My.mkM KX G ?kg1) ?kf2 ?kf3 ?kf4 ?kf5 ?kf6 ?kf7 ?kf8 ?kf9 ?kf10 ?kf11 ?kf12 ?kf13 ?kf14 ?kf15 ?kf16 (My.mkM KX G ?kg17) ?kf18 ?kf19 ?kf20 ?kf21 ?kf22 ?kf23 ?kf24 ?kf25 ?kf26 ?kf27 ?kf28 ?kf29 ?kf30 ?kf31 ?kf32 (My.mkM KX G ?kg33) ?kf34 ?kf35 ?kf36 ?kf37 ?kf38 ?kf39 ?kf40 ?kf41 ?kf42 ?kf43 ?kf44 ?kf45 ?kf46 ?kf47 ?kf48 (My.mkM KX G ?kg49) (My.mkM KX G ?kg50) ?kf51 ?kf52 ?kf53 ?kf54 ?kf55 ?kf56 ?kf57 ?kf58 ?kf59 ?kf60 ?kf61 ?kf62 ?kf63 ?kf64 ?kf65 (My.mkM KX G ?kg66) (My.mkM KX G ?kg67) (My.mkM KX G ?kg68) (My.mkM KX G ?kg69) (My.mkM KX G ?kg70) (My.mkM KX G ?kg71) ?kf72 ?kf73 ?kf74 ?kf75 ?kf76 ?kf77 ?kf78 ?kf79 ?kf80 ?kf81 ?kf82 ?kf83 ?kf84 ?kf85 ?kf86 (My.mkM KX G ?kg87) (My.mkM KX G ?kg88)⟩
        (case kg0 => k_is)
        (case kg1 => k_is)
        (case kg17 => k_is)
        (case kg33 => k_is)
        (case kg49 => k_is)
        (case kg50 => k_is)
        (case kg66 => k_is)
        (case kg67 => k_is)
        (case kg68 => k_is)
        (case kg69 => k_is)
        (case kg70 => k_is)
        (case kg71 => k_is)
        (case kg87 => k_is)
        (case kg88 => k_is)
        (case kf2 => exact ⟨by k_exc, by k_is, by k_is, by k_is, by k_is, by k_is, ⟨_, by k_is⟩⟩)
        (case kf3 => exact L2.kit_val (by k_is))
        (case kf4 => exact L2.exm_of (by k_is) (by k_is) (by k_is) (by k_is))
        (case kf5 => exact L2.kit_no (by decide) (by k_is) (by k_is) (by k_is))
        (case kf6 => exact L2.kit_no (by decide) (by k_is) (by k_is) (by k_is))
        (case kf7 => exact L2.kit_no (by decide) (by k_is) (by k_is) (by k_is))
        (case kf8 => exact L2.kit_no (by decide) (by k_is) (by k_is) (by k_is))
        (case kf9 => exact L2.kit_no (by decide) (by k_is) (by k_is) (by k_is))
        (case kf10 => exact L2.kit_no (by decide) (by k_is) (by k_is) (by k_is))
        (case kf11 => exact L2.kit_no (by decide) (by k_is) (by k_is) (by k_is))
        (case kf12 => exact L2.kit_no (by decide) (by k_is) (by k_is) (by k_is))
        (case kf13 => exact L2.kit_no (by decide) (by k_is) (by k_is) (by k_is))
        (case kf14 => exact L2.kit_no (by decide) (by k_is) (by k_is) (by k_is))
        (case kf15 => exact L2.kit_no (by decide) (by k_is) (by k_is) (by k_is))
        (case kf16 => exact L2.kit_no (by decide) (by k_is) (by k_is) (by k_is))
        (case kf18 => exact ⟨by k_exc, by k_is, by k_is, by k_is, by k_is, by k_is, ⟨_, by k_is⟩⟩)
        (case kf19 => exact L2.kit_val (by k_is))
        (case kf20 => exact L2.exm_of (by k_is) (by k_is) (by k_is) (by k_is))
        (case kf21 => exact L2.kit_no (by decide) (by k_is) (by k_is) (by k_is))
        (case kf22 => exact L2.kit_no (by decide) (by k_is) (by k_is) (by k_is))
        (case kf23 => exact L2.kit_no (by decide) (by k_is) (by k_is) (by k_is))
        (case kf24 => exact L2.kit_no (by decide) (by k_is) (by k_is) (by k_is))
        (case kf25 => exact L2.kit_no (by decide) (by k_is) (by k_is) (by k_is))
        (case kf26 => exact L2.kit_no (by decide) (by k_is) (by k_is) (by k_is))
        (case kf27 => exact L2.kit_no (by decide) (by k_is) (by k_is) (by k_is))
        (case kf28 => exact L2.kit_no (by decide) (by k_is) (by k_is) (by k_is))
        (case kf29 => exact L2.kit_no (by decide) (by k_is) (by k_is) (by k_is))
        (case kf30 => exact L2.kit_no (by decide) (by k_is) (by k_is) (by k_is))
        (case kf31 => exact L2.kit_no (by decide) (by k_is) (by k_is) (by k_is))
        (case kf32 => exact L2.kit_no (by decide) (by k_is) (by k_is) (by k_is))
        (case kf34 => exact ⟨by k_exc, by k_is, by k_is, by k_is, by k_is, by k_is, ⟨_, by k_is⟩⟩)
        (case kf35 => exact L2.kit_val (by k_is))
        (case kf36 => exact L2.exm_of (by k_is) (by k_is) (by k_is) (by k_is))
        (case kf37 => exact L2.kit_no (by decide) (by k_is) (by k_is) (by k_is))
        (case kf38 => exact L2.kit_no (by decide) (by k_is) (by k_is) (by k_is))
        (case kf39 => exact L2.kit_no (by decide) (by k_is) (by k_is) (by k_is))
        (case kf40 => exact L2.kit_no (by decide) (by k_is) (by k_is) (by k_is))
        (case kf41 => exact L2.kit_no (by decide) (by k_is) (by k_is) (by k_is))
        (case kf42 => exact L2.kit_no (by decide) (by k_is) (by k_is) (by k_is))
        (case kf43 => exact L2.kit_no (by decide) (by k_is) (by k_is) (by k_is))
        (case kf44 => exact L2.kit_no (by decide) (by k_is) (by k_is) (by k_is))
        (case kf45 => exact L2.kit_no (by decide) (by k_is) (by k_is) (by k_is))
        (case kf46 => exact L2.kit_no (by decide) (by k_is) (by k_is) (by k_is))
        (case kf47 => exact L2.kit_no (by decide) (by k_is) (by k_is) (by k_is))
        (case kf48 => exact L2.kit_no (by decide) (by k_is) (by k_is) (by k_is))
        (case kf51 => exact ⟨by k_exc, by k_is, by k_is, by k_is, by k_is, by k_is, ⟨_, by k_is⟩⟩)
        (case kf52 => exact L2.kit_val (by k_is))
        (case kf53 => exact L2.exm_of (by k_is) (by k_is) (by k_is) (by k_is))
        (case kf54 => exact L2.kit_no (by decide) (by k_is) (by k_is) (by k_is))
        (case kf55 => exact L2.kit_no (by decide) (by k_is) (by k_is) (by k_is))
        (case kf56 => exact L2.kit_no (by decide) (by k_is) (by k_is) (by k_is))
        (case kf57 => exact L2.kit_no (by decide) (by k_is) (by k_is) (by k_is))
        (case kf58 => exact L2.kit_no (by decide) (by k_is) (by k_is) (by k_is))
        (case kf59 => exact L2.kit_no (by decide) (by k_is) (by k_is) (by k_is))
        (case kf60 => exact L2.kit_no (by decide) (by k_is) (by k_is) (by k_is))
        (case kf61 => exact L2.kit_no (by decide) (by k_is) (by k_is) (by k_is))
        (case kf62 => exact L2.kit_no (by decide) (by k_is) (by k_is) (by k_is))
        (case kf63 => exact L2.kit_no (by decide) (by k_is) (by k_is) (by k_is))
        (case kf64 => exact L2.kit_no (by decide) (by k_is) (by k_is) (by k_is))
        (case kf65 => exact L2.kit_no (by decide) (by k_is) (by k_is) (by k_is))
        (case kf72 => exact ⟨by k_exc, by k_is, by k_is, by k_is, by k_is, by k_is, ⟨_, by k_is⟩⟩)
        (case kf73 => exact L2.kit_val (by k_is))
        (case kf74 => exact L2.exm_of (by k_is) (by k_is) (by k_is) (by k_is))
        (case kf75 => exact L2.kit_no (by decide) (by k_is) (by k_is) (by k_is))
        (case kf76 => exact L2.kit_no (by decide) (by k_is) (by k_is) (by k_is))
        (case kf77 => exact L2.kit_no (by decide) (by k_is) (by k_is) (by k_is))
        (case kf78 => exact L2.kit_no (by decide) (by k_is) (by k_is) (by k_is))
        (case kf79 => exact L2.kit_no (by decide) (by k_is) (by k_is) (by k_is))
        (case kf80 => exact L2.kit_no (by decide) (by k_is) (by k_is) (by k_is))
        (case kf81 => exact L2.kit_no (by decide) (by k_is) (by k_is) (by k_is))
        (case kf82 => exact L2.kit_no (by decide) (by k_is) (by k_is) (by k_is))
        (case kf83 => exact L2.kit_no (by decide) (by k_is) (by k_is) (by k_is))
        (case kf84 => exact L2.kit_no (by decide) (by k_is) (by k_is) (by k_is))
        (case kf85 => exact L2.kit_no (by decide) (by k_is) (by k_is) (by k_is))
        (case kf86 => exact L2.kit_no (by decide) (by k_is) (by k_is) (by k_is))
      case t39 =>
        refine' My.mkC KX G ?e
        (case e => k_is)
    obtain ⟨⟨a0, d0, m0, F0, b0⟩, ⟨a1, d1, m1, F1, b1⟩, ⟨a2, d2, m2, F2, b2⟩, ⟨a3, d3, m3, F3, b3⟩, ⟨a4, d4, m4, F4, b4⟩, ⟨a5, d5, m5, F5, b5⟩, ⟨a6, d6, m6, F6, b6⟩, ⟨a7, d7, m7, F7, b7⟩, ⟨a8, d8, m8, F8, b8⟩, ⟨a9, d9, m9, F9, b9⟩, ⟨a10, d10, m10, F10, b10⟩, ⟨a11, d11, m11, F11, b11⟩, ⟨a12, d12, m12, F12, b12⟩, ⟨a13, d13, m13, F13, b13⟩, ⟨a14, d14, m14, F14, b14⟩, ⟨a15, d15, m15, F15, b15⟩, ⟨a16, d16, m16, F16, b16⟩, ⟨a17, d17, m17, F17, b17⟩, ⟨a18, d18, m18, F18, b18⟩, ⟨a19, d19, m19, F19, b19⟩, ⟨a20, d20, m20, F20, b20⟩, ⟨a21, d21, m21, F21, b21⟩, ⟨a22, d22, m22, F22, b22⟩, ⟨a23, d23, m23, F23, b23⟩, ⟨a24, d24, m24, F24, b24⟩, ⟨a25, d25, m25, F25, b25⟩, ⟨a26, d26, m26, F26, b26⟩, ⟨a27, d27, m27, F27, b27⟩, N0, N1, N2, N3, N4, N5, N6, N7, N8, N9, ⟨c_Barred, c_Full, c_NoCount, c_NoNames, c_NoNumbers, c_NoOrder, c_NoRow, c_NoSeveral, c_NoStep, c_NoTelling, c_NoText, c_NoThing, c_Nothing, c_OrderError, X⟩, C0⟩ := TS
    have T : My.Txt (L2.KOf KX) mg ⟨a0, d0, a1, d1, a2, d2, a3, d3, a4, d4, a5, d5, a6, d6, a7, d7, a8, d8, a9, d9, a10, d10, a11, d11, a12, d12, a13, d13, a14, d14, a15, d15, a16, d16, a17, d17, a18, d18, a19, d19, a20, d20, a21, d21, a22, d22, a23, d23, a24, d24, a25, d25, a26, d26, a27, d27, c_Barred, c_Full, c_NoCount, c_NoNames, c_NoNumbers, c_NoOrder, c_NoRow, c_NoSeveral, c_NoStep, c_NoTelling, c_NoText, c_NoThing, c_Nothing, c_OrderError⟩ := ⟨m0, F0, b0, m1, F1, b1, m2, F2, b2, m3, F3, b3, m4, F4, b4, m5, F5, b5, m6, F6, b6, m7, F7, b7, m8, F8, b8, m9, F9, b9, m10, F10, b10, m11, F11, b11, m12, F12, b12, m13, F13, b13, m14, F14, b14, m15, F15, b15, m16, F16, b16, m17, F17, b17, m18, F18, b18, m19, F19, b19, m20, F20, b20, m21, F21, b21, m22, F22, b22, m23, F23, b23, m24, F24, b24, m25, F25, b25, m26, F26, b26, m27, F27, b27, N0, N1, N2, N3, N4, N5, N6, N7, N8, N9, X.g_Barred, X.g_Full, X.Z_Full, X.v_Full, X.x_Full, X.q_Full_Barred, X.q_Full_NoCount, X.q_Full_NoNames, X.q_Full_NoNumbers, X.q_Full_NoOrder, X.q_Full_NoRow, X.q_Full_NoSeveral, X.q_Full_NoStep, X.q_Full_NoTelling, X.q_Full_NoText, X.q_Full_NoThing, X.q_Full_Nothing, X.g_NoCount, X.Z_NoCount, X.v_NoCount, X.x_NoCount, X.q_NoCount_Barred, X.q_NoCount_Full, X.q_NoCount_NoNames, X.q_NoCount_NoNumbers, X.q_NoCount_NoOrder, X.q_NoCount_NoRow, X.q_NoCount_NoSeveral, X.q_NoCount_NoStep, X.q_NoCount_NoTelling, X.q_NoCount_NoText, X.q_NoCount_NoThing, X.q_NoCount_Nothing, X.g_NoNames, X.Z_NoNames, X.v_NoNames, X.x_NoNames, X.q_NoNames_Barred, X.q_NoNames_Full, X.q_NoNames_NoCount, X.q_NoNames_NoNumbers, X.q_NoNames_NoOrder, X.q_NoNames_NoRow, X.q_NoNames_NoSeveral, X.q_NoNames_NoStep, X.q_NoNames_NoTelling, X.q_NoNames_NoText, X.q_NoNames_NoThing, X.q_NoNames_Nothing, X.g_NoNumbers, X.g_NoOrder, X.Z_NoOrder, X.v_NoOrder, X.x_NoOrder, X.q_NoOrder_Barred, X.q_NoOrder_Full, X.q_NoOrder_NoCount, X.q_NoOrder_NoNames, X.q_NoOrder_NoNumbers, X.q_NoOrder_NoRow, X.q_NoOrder_NoSeveral, X.q_NoOrder_NoStep, X.q_NoOrder_NoTelling, X.q_NoOrder_NoText, X.q_NoOrder_NoThing, X.q_NoOrder_Nothing, X.g_NoRow, X.g_NoSeveral, X.g_NoStep, X.g_NoTelling, X.g_NoText, X.g_NoThing, X.Z_NoThing, X.v_NoThing, X.x_NoThing, X.q_NoThing_Barred, X.q_NoThing_Full, X.q_NoThing_NoCount, X.q_NoThing_NoNames, X.q_NoThing_NoNumbers, X.q_NoThing_NoOrder, X.q_NoThing_NoRow, X.q_NoThing_NoSeveral, X.q_NoThing_NoStep, X.q_NoThing_NoTelling, X.q_NoThing_NoText, X.q_NoThing_Nothing, X.g_Nothing, X.g_OrderError, C0⟩
    have e := hmg.symm.trans m27
    cases e
    exact ⟨_, My.law_binds F27, fun base _ _ => My.ok_law T⟩
#print axioms PySem.Challenge.cw_noticed_k13_changes_refused_holds
