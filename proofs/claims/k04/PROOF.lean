import PyProof.Rows.All
import Wide.All
import OpenK.AllK
import Wide.FinOn
import Lean
import PyProof.EqAt
import PyProof.EqKinds
import PyProof.TupleCall
import PyProof.P3Eq
import PyProof.P3In
import PyProof.NeData
import KE.KSortTup
import KE.LcSums
import PyProof.Rows.TupAdd
import KE.KTryMore
import OpenK.KOwn
import PyProof.NsDelKeeps
import PyProof.ExcArgsOwn
import KE.KIsAll
import KE.KLam
import KE.KMinKey
import KE.KNest
import KE.KNestM
import KE.KRevIter
import PyProof.Draws
import PyProof.EnumMake
import PyProof.FactsAll.tuple
import PyProof.ListMulRoad
import PyProof.ListRange
import PyProof.Rows.MinMaxN
import PyProof.Rows.SetFrom
import PyProof.Rows.SumAny
import PyProof.SliceList
import PyProof.TupleOfSeq
import PyProof.WalkInts
import PyProof.WalksMore
import PyProof.ZipIter
import PySem.Challenge.RW_noticed_k04_whole_rounds
set_option Elab.async false
set_option linter.all false
set_option maxRecDepth 100000
/-! THE HAND LAYER, for ints, bools, texts, own classes, LISTS and tuples (index, slices, in, append, pop ..), calls, loops. Paste it whole ahead of your own text; what your proof does not reach may be deleted. -/
namespace L2
open PySem PySem.Spec PyProof.Rows

/-- a key: an int or a str -/
noncomputable abbrev Key := Sum Int Str
noncomputable def keyIs : Key → Value → Bool
  | .inl k, v => Value.isInt k v
  | .inr x, v => Value.isStrOf x v
noncomputable def keyH (w : World) : Key → Int
  | .inl k => hashInt k
  | .inr x => hashStr w x
theorem keyIs_shape : ∀ {k : Key} {v : Value}, keyIs k v = true → (∃ i t, k = Sum.inl i ∧ v = Value.int i t) ∨ (∃ x t, k = Sum.inr x ∧ v = Value.str x t)
  | .inl i, v, h => by
    obtain ⟨t, e⟩ := Value.isInt_shape (k := i) (v := v) h
    exact .inl ⟨i, t, rfl, e⟩
  | .inr x, v, h => by
    obtain ⟨t, e⟩ := Value.isStrOf_shape (x := x) (v := v) h
    exact .inr ⟨x, t, rfl, e⟩
theorem key_ll (a b : Int) : decide ((Sum.inl a : Key) = Sum.inl b) = (a == b) := by
  by_cases e : a = b
  · subst e; simp
  · have h : ¬ (Sum.inl a : Key) = Sum.inl b := fun q => e (Sum.inl.inj q)
    rw [decide_eq_false h]
    exact (beq_eq_false_iff_ne.mpr e).symm
theorem key_rr (a b : Str) : decide ((Sum.inr a : Key) = Sum.inr b) = decide (a = b) := by
  by_cases e : a = b
  · subst e; simp
  · have h : ¬ (Sum.inr a : Key) = Sum.inr b := fun q => e (Sum.inr.inj q)
    rw [decide_eq_false h, decide_eq_false e]
theorem key_lr (a : Int) (b : Str) : decide ((Sum.inl a : Key) = Sum.inr b) = false := decide_eq_false (fun q => nomatch q)
theorem key_rl (a : Str) (b : Int) : decide ((Sum.inr a : Key) = Sum.inl b) = false := decide_eq_false (fun q => nomatch q)

noncomputable def mixKind (prog : Program) (w : World) : PySem.KeyKind prog w Key where
  is := keyIs
  hash := keyH w
  inj := fun v a b ha hb => by
    rcases keyIs_shape ha with ⟨i, t, rfl, rfl⟩ | ⟨x, t, rfl, rfl⟩
    · rcases keyIs_shape hb with ⟨j, u, rfl, e⟩ | ⟨y, u, rfl, e⟩
      · injection e with e1 _; rw [e1]
      · exact nomatch e
    · rcases keyIs_shape hb with ⟨j, u, rfl, e⟩ | ⟨y, u, rfl, e⟩
      · exact nomatch e
      · injection e with e1 _; rw [e1]
  byValue := fun k v h => by
    rcases keyIs_shape h with ⟨i, t, rfl, rfl⟩ | ⟨x, t, rfl, rfl⟩ <;> rfl
  pyHash := fun hv h => by
    rcases keyIs_shape hv with ⟨i, t, rfl, rfl⟩ | ⟨x, t, rfl, rfl⟩
    · exact wpAny_pyHash_int h
    · exact wpAny_pyHash_str h
  eqBool := fun hu hv h => by
    rcases keyIs_shape hu with ⟨i, t, rfl, rfl⟩ | ⟨x, t, rfl, rfl⟩
    · rcases keyIs_shape hv with ⟨j, u, rfl, rfl⟩ | ⟨y, u, rfl, rfl⟩
      · rw [key_ll] at h; exact wpAny_eqBool_int h
      · rw [key_lr] at h; exact SeqAt.EqAt.int_str i t y u _ _ _ _ h
    · rcases keyIs_shape hv with ⟨j, u, rfl, rfl⟩ | ⟨y, u, rfl, rfl⟩
      · rw [key_rl] at h; exact SeqAt.EqAt.str_int x t j u _ _ _ _ h
      · rw [key_rr] at h; exact wpAny_eqBool_str h
  «strs» := fun k x t v h => by
    rcases keyIs_shape h with ⟨i, u, rfl, e⟩ | ⟨y, u, rfl, e⟩
    · exact nomatch e
    · injection e with e1 _
      subst e1
      cases v <;> rfl

end L2

namespace L2
open PySem PySem.Spec PyProof.Rows

/-- a value, without the heap -/
inductive V where
  | non | bl (b : Bool) | int (i : Int) | str (x : Str) | byt (b : Array UInt8) | flt (b : UInt64) | ref (a : Addr) | ty (n : String)
  deriving DecidableEq

noncomputable def RelV : V → Value → Prop
  | .non, u => u = Value.none
  | .bl b, u => u = Value.bool b
  | .int i, u => ∃ t, u = Value.int i t
  | .str x, u => ∃ t, u = Value.str x t
  | .byt b, u => ∃ t, u = Value.bytes b t
  | .flt b, u => ∃ t, u = Value.float b t
  | .ref a, u => u = Value.ref a
  | .ty n, u => u = Value.type n

noncomputable abbrev Vals : List V → List Value → Prop := Paired RelV
theorem Vals.length {xs : List V} {us : List Value} (r : Vals xs us) : xs.length = us.length := Paired.length r
theorem Vals.get : ∀ {xs : List V} {us : List Value} {i : Nat} {x : V}, Vals xs us → xs[i]? = some x → ∃ u, us[i]? = some u ∧ RelV x u
  | _, _, _, _, .nil, e => by simp at e
  | _, _, 0, _, .cons r _, e => by simp at e; subst e; exact ⟨_, rfl, r⟩
  | _, _, i + 1, x, .cons _ t, e => by
    obtain ⟨u, h1, h2⟩ := Vals.get (i := i) (x := x) t (by simpa using e)
    exact ⟨u, by simpa using h1, h2⟩
theorem Vals.set {x : V} {u : Value} (r : RelV x u) : ∀ {xs : List V} {us : List Value} (i : Nat), Vals xs us → Vals (xs.set i x) (us.set i u)
  | _, _, _, .nil => .nil
  | _, _, 0, .cons _ t => .cons r t
  | _, _, i + 1, .cons q t => .cons q (Vals.set r i t)
theorem Vals.append : ∀ {xs ys : List V} {us ws : List Value}, Vals xs us → Vals ys ws → Vals (xs ++ ys) (us ++ ws)
  | _, _, _, _, .nil, s => s
  | _, _, _, _, .cons r t, s => .cons r (Vals.append t s)
theorem Vals.take : ∀ {xs : List V} {us : List Value} (n : Nat), Vals xs us → Vals (xs.take n) (us.take n)
  | _, _, 0, _ => .nil
  | _, _, _ + 1, .nil => .nil
  | _, _, n + 1, .cons r t => .cons r (Vals.take n t)
theorem Vals.drop : ∀ {xs : List V} {us : List Value} (n : Nat), Vals xs us → Vals (xs.drop n) (us.drop n)
  | _, _, 0, r => r
  | _, _, _ + 1, .nil => .nil
  | _, _, n + 1, .cons _ t => Vals.drop n t
theorem Vals.none_of : ∀ {xs : List V} {us : List Value} {i : Nat}, Vals xs us → xs[i]? = none → us[i]? = none := fun {xs us i} r e => by
  have h1 := r.length
  have h2 : xs.length ≤ i := List.getElem?_eq_none_iff.mp e
  exact List.getElem?_eq_none_iff.mpr (by omega)

noncomputable def RelO : Option V → Option Value → Prop
  | some v, some u => RelV v u
  | none, none => True
  | _, _ => False
noncomputable def KV {κ : Type} : List (κ × V) → List (κ × Value) → Prop := Paired fun (p : κ × V) (q : κ × Value) => p.1 = q.1 ∧ RelV p.2 q.2

/-- a key of a dict (00_mix): an int or a text -/
noncomputable def kV : Key → V
  | .inl i => .int i
  | .inr x => .str x

/-- what stands at a tracked address -/
inductive HO where
  /-- a list -/
  | lst (xs : List V)
  /-- a tuple (never changes) -/
  | tup (xs : List V)
  /-- a dict whose keys are ints and texts; one whose keys are tuples of ints and texts (the empty one is both) -/
  | dK (kvs : List (Key × V)) | dT (kvs : List (List Key × V))
  /-- a set of ints: its members, its size -/
  | set (S : Int → Bool) (n : Nat)
  /-- an instance of the class at C, its dict at dx, its attributes -/
  | ins (C dx : Addr) (fs : List (Str × V))
  /-- the dict of the instance at x -/
  | own (x : Addr)
  /-- the dict of an exception -/
  | xd (fs : List (Str × V))
  /-- a bound method, f of x -/
  | met (f x : Addr)
  /-- a range object lo, lo + 1, .. below hi -/
  | rng (lo hi : Int)
  /-- a thing that is known to the object (the script; a dict while a loop walks it): read, never written while it is so -/
  | frz (o : Obj) (u : HO)
  /-- a code object's table -/
  | tbl (ps : Array Value)
  /-- any other thing, by what is true of its one object (a def of one's own: SetO a S n := HO.ext fun h => ..) -/
  | ext (φ : Heap → Prop)

noncomputable abbrev Hp := Addr → Option HO
noncomputable def upd (H : Hp) (a : Addr) (o : HO) : Hp := fun b => if b = a then some o else H b
theorem upd_same {H : Hp} {a : Addr} {o : HO} : upd H a o a = some o := by unfold upd; rw [if_pos rfl]
theorem upd_ne {H : Hp} {a b : Addr} {o : HO} (h : b ≠ a) : upd H a o b = H b := by unfold upd; rw [if_neg h]
/-- two objects of different content stand apart -/
theorem ne_of {H : Hp} {a b : Addr} {o u : HO} (h : H a = some o) (h' : H b = some u) (d : o ≠ u) : a ≠ b := by
  intro e; subst e; rw [h] at h'; exact d (Option.some.inj h')
theorem ne_of_none {H : Hp} {a b : Addr} {o : HO} (h : H a = some o) (h' : H b = none) : a ≠ b := by
  intro e; subst e; rw [h] at h'; cases h'

noncomputable def IsTupN (h : Heap) (a : Addr) (items : Array Value) : Prop := IsTup h a items ∧ ∃ o, h.get? a = some o ∧ o.dict = none
theorem IsTupN.new (h : Heap) (items : Array Value) : IsTupN (h.push { cls := .type "tuple", data := .seq items }) h.objs.size items := ⟨IsTup.new h items, _, Heap.get?_push_size _ rfl, rfl⟩
section
variable (P : Program) (w : World)
noncomputable def ObjOk (H : Hp) (h : Heap) (a : Addr) : HO → Prop
  | .lst xs => xs.length ≤ sizeLine ∧ ∃ (its : List Value) (n : Nat), Vals xs its ∧ h.get? a = some { cls := .type "list", data := .seq its.toArray n }
  | .tup xs => xs.length ≤ sizeLine ∧ ∃ its : List Value, Vals xs its ∧ IsTupN h a its.toArray
  | .dK kvs => kvs.length ≤ sizeLine ∧ (a == sysModules) = false ∧ ∃ vs, KV kvs vs ∧ h.DictOf (mixKind P w) a vs
  | .dT kvs => kvs.length ≤ sizeLine ∧ (a == sysModules) = false ∧ ∃ xs : List (List Key × Addr × Value),
      Paired (fun (p : List Key × V) (q : List Key × Addr × Value) => p.1 = q.1 ∧ H q.2.1 = some (.tup (p.1.map kV)) ∧ RelV p.2 q.2.2) kvs xs ∧
      ∃ o es ep, h.get? a = some o ∧ o.ExactDict ∧ o.data = .dict es ep ∧ es.toList = xs.map (entryOfKey (tupleKind (mixKind P w))) ∧ (xs.map (·.1)).Nodup
  | .set S n => h.SetOf (intKind P w) a S n
  | .ins C dx fs => H dx = some (.own a) ∧ fs.length ≤ 1000 ∧ dx ≠ a ∧ h.get? a = some (PySem.W.instObj C dx) ∧
      ∃ mA, h.Ns1 dx mA ∧ (∀ f, RelO (fs.lookup f) (mA f)) ∧ PySem.Within mA (fs.map (·.1))
  | .own _ => ∃ o, h.get? a = some o
  | .xd fs => ∃ mA, h.Ns1 a mA ∧ ∀ f, RelO (fs.lookup f) (mA f)
  | .rng lo hi => ∃ t u v, h.get? a = some { cls := .type "range", data := .fields #[.int lo t, .int hi u, .int 1 v] }
  | .frz o u => h.get? a = some o ∧ ObjOk H h a u
  | .tbl ps => h.get? a = some { cls := .none, data := .fields ps }
  | .met f x => h.get? a = some (PySem.W.methodObj (.ref f) (.ref x))
  | .ext φ => φ h ∧ (∃ o, h.get? a = some o) ∧ ∀ h1 h2 : Heap, φ h1 → (∀ o, h1.get? a = some o → h2.get? a = some o) → φ h2
/-- the abstract heap is held -/
noncomputable def HOk (H : Hp) (h : Heap) : Prop := ∀ a o, H a = some o → ObjOk P w H h a o
end

section
variable {P : Program} {w : World} {H H' : Hp} {h h' : Heap} {a : Addr} {o : HO}
theorem ObjOk.lt (x : ObjOk P w H h a o) : a < h.objs.size := by
  cases o with
  | lst xs => obtain ⟨_, _, _, _, e⟩ := x; exact Heap.lt_size e
  | tup xs => obtain ⟨_, _, _, p⟩ := x; exact p.1.lt
  | dK kvs => obtain ⟨_, _, _, _, o, _, _, e, _⟩ := x; exact Heap.lt_size e
  | dT kvs => obtain ⟨_, _, _, _, o, _, _, e, _⟩ := x; exact Heap.lt_size e
  | set S n => obtain ⟨o, _, _, _, e, _⟩ := x; exact Heap.lt_size e
  | ins C dx fs => obtain ⟨_, _, _, e, _⟩ := x; exact Heap.lt_size e
  | own y => obtain ⟨_, e⟩ := x; exact Heap.lt_size e
  | xd fs => obtain ⟨_, ⟨_, _, _, e, _⟩, _⟩ := x; exact Heap.lt_size e
  | rng lo hi => obtain ⟨_, _, _, e⟩ := x; exact Heap.lt_size e
  | frz ob u => obtain ⟨e, _⟩ := x; exact Heap.lt_size e
  | tbl ps => exact Heap.lt_size (show h.get? a = some _ from x)
  | met f y => exact Heap.lt_size (show h.get? a = some _ from x)
  | ext φ => obtain ⟨_, ⟨_, e⟩, _⟩ := x; exact Heap.lt_size e
theorem Paired.mapP {α β : Type} {F G : α → β → Prop} : ∀ {l₁ : List α} {l₂ : List β}, Paired F l₁ l₂ → (∀ a b, F a b → G a b) → Paired G l₁ l₂
  | _, _, .nil, _ => .nil
  | _, _, .cons r t, f => .cons (f _ _ r) (Paired.mapP t f)
/-- what an object's description leans on: its own object, its own dict, the tuples -/
theorem ObjOk.stay (x : ObjOk P w H h a o) (k : ∀ b u, (b = a ∨ H b = some (.own a)) → h.get? b = some u → h'.get? b = some u)
    (ho : ∀ b, H b = some (.own a) → H' b = some (.own a)) (ht : ∀ b xs, H b = some (.tup xs) → H' b = some (.tup xs)) : ObjOk P w H' h' a o := by
  induction o with
  | lst xs => obtain ⟨z, its, n, r, e⟩ := x; exact ⟨z, its, n, r, k _ _ (.inl rfl) e⟩
  | tup xs => obtain ⟨z, its, r, ⟨ob, e, c⟩, ob2, e2, c2⟩ := x; exact ⟨z, its, r, ⟨ob, k _ _ (.inl rfl) e, c⟩, ob2, k _ _ (.inl rfl) e2, c2⟩
  | dK kvs => obtain ⟨z, y, vs, r, ob, es, ep, e, c⟩ := x; exact ⟨z, y, vs, r, ob, es, ep, k _ _ (.inl rfl) e, c⟩
  | dT kvs =>
    obtain ⟨z, y, xs, r, ob, es, ep, e, c⟩ := x
    exact ⟨z, y, xs, Paired.mapP r fun p q z => ⟨z.1, ht _ _ z.2.1, z.2.2⟩, ob, es, ep, k _ _ (.inl rfl) e, c⟩
  | set S n => obtain ⟨ob, es, ep, t, e, c⟩ := x; exact ⟨ob, es, ep, t, k _ _ (.inl rfl) e, c⟩
  | ins C dx fs =>
    obtain ⟨d, z, ne, e, mA, ⟨od, es, ep, e2, c⟩, r⟩ := x
    exact ⟨ho _ d, z, ne, k _ _ (.inl rfl) e, mA, ⟨od, es, ep, k _ _ (.inr d) e2, c⟩, r⟩
  | own y => obtain ⟨ob, e⟩ := x; exact ⟨ob, k _ _ (.inl rfl) e⟩
  | xd fs => obtain ⟨mA, ⟨od, es, ep, e, c⟩, r⟩ := x; exact ⟨mA, ⟨od, es, ep, k _ _ (.inl rfl) e, c⟩, r⟩
  | rng lo hi => obtain ⟨t, u, v, e⟩ := x; exact ⟨t, u, v, k _ _ (.inl rfl) e⟩
  | frz ob u ih => obtain ⟨e, q⟩ := x; exact ⟨k _ _ (.inl rfl) e, ih q⟩
  | tbl ps =>
    have e : h.get? a = some { cls := .none, data := .fields ps } := x
    show h'.get? a = some { cls := .none, data := .fields ps }
    exact k a _ (.inl rfl) e
  | met f y =>
    have e : h.get? a = some (PySem.W.methodObj (.ref f) (.ref y)) := x
    show h'.get? a = some (PySem.W.methodObj (.ref f) (.ref y))
    exact k a _ (.inl rfl) e
  | ext φ => obtain ⟨p, ⟨o, e⟩, st⟩ := x; exact ⟨st _ _ p fun o q => k _ _ (.inl rfl) q, ⟨o, k _ _ (.inl rfl) e⟩, st⟩
theorem HOk.lt (x : HOk P w H h) (e : H a = some o) : a < h.objs.size := (x a o e).lt
theorem HOk.fresh (x : HOk P w H h) (e : h.objs.size ≤ a) : H a = none := by
  cases q : H a with
  | none => rfl
  | some u => exact absurd (Nat.lt_of_lt_of_le (x.lt q) e) (Nat.lt_irrefl _)
/-- every object of the heap is kept -/
theorem HOk.kept (x : HOk P w H h) (k : ∀ b u, h.get? b = some u → h'.get? b = some u) : HOk P w H h' := fun a o e =>
  (x a o e).stay (fun b u _ q => k b u q) (fun _ q => q) fun _ _ q => q
/-- a new object is laid and tracked -/
theorem HOk.laid (x : HOk P w H h) (k : ∀ b u, h.get? b = some u → h'.get? b = some u) (hp : h.objs.size ≤ a) (new : ObjOk P w (upd H a o) h' a o) : HOk P w (upd H a o) h' := fun b u e => by
  have hn := x.fresh hp
  by_cases hb : b = a
  · subst hb; rw [upd_same] at e; cases e; exact new
  · rw [upd_ne hb] at e
    exact (x b u e).stay (fun c v _ q => k c v q) (fun c q => by rw [upd_ne (ne_of_none q hn)]; exact q) fun c xs q => by rw [upd_ne (ne_of_none q hn)]; exact q
end

/-- what may be read as u: it is u, or a known u -/
noncomputable def Rd (H : Hp) (a : Addr) (u : HO) : Prop := H a = some u ∨ ∃ o, H a = some (.frz o u)
theorem Rd.of {H : Hp} {a : Addr} {u : HO} (h : H a = some u) : Rd H a u := .inl h
theorem Rd.ok {P : Program} {w : World} {H : Hp} {h : Heap} {a : Addr} {u : HO} (r : Rd H a u) (x : HOk P w H h) : ObjOk P w H h a u := by
  rcases r with r | ⟨o, r⟩
  · exact x a u r
  · obtain ⟨_, q⟩ := x a _ r
    exact q
/-- what may be written -/
noncomputable def Mut : Option HO → Prop
  | some (.lst _) => True
  | some (.dK _) => True
  | some (.dT _) => True
  | some (.set _ _) => True
  | some (.ins _ _ _) => True
  | some (.ext _) => True
  | _ => False
section
variable {P : Program} {w : World} {H : Hp} {h h' : Heap} {x e : Addr} {o' : HO}
/-- the object at e is changed: x itself, or the dict of the instance x -/
theorem HOk.write (ok : HOk P w H h) (mu : Mut (H x)) (he : e = x ∨ H e = some (.own x)) (k : ∀ b u, b ≠ e → h.get? b = some u → h'.get? b = some u) (heo : ∃ u, h'.get? e = some u)
    (new : ObjOk P w (upd H x o') h' x o') : HOk P w (upd H x o') h' := fun b u q => by
  have nown : ∀ c y, H c = some (.own y) → c ≠ x := fun c y r z => by subst z; rw [r] at mu; exact mu
  have ntup : ∀ c xs, H c = some (.tup xs) → c ≠ x := fun c xs r z => by subst z; rw [r] at mu; exact mu
  by_cases hb : b = x
  · subst hb; rw [upd_same] at q; cases q; exact new
  · rw [upd_ne hb] at q
    by_cases hbe : b = e
    · have q' : H b = some (.own x) := by
        rcases he with z | z
        · exact absurd (hbe.trans z) hb
        · rw [hbe]; exact z
      rw [q] at q'; cases q'
      obtain ⟨v, hv⟩ := heo
      exact ⟨v, by rw [hbe]; exact hv⟩
    · refine (ok b u q).stay (fun c v hc r => k c v ?_ r) (fun c r => by rw [upd_ne (nown c b r)]; exact r) fun c xs r => by rw [upd_ne (ntup c xs r)]; exact r
      rcases hc with rfl | hc
      · exact hbe
      · rintro rfl
        rcases he with z | z
        · exact nown c b hc z
        · rw [hc] at z; cases z; exact hb rfl
end

/-! ### kept unless tracked; of the frames at fs (the callers') the slots may change (an exception that passes writes there); of the records at ex (iterators) nothing is said -/
structure Un (fs ex : List Addr) (H H' : Hp) (h h' : Heap) : Prop where
  keep : ∀ b o, h.get? b = some o → H b = none → b ∉ fs → b ∉ ex → h'.get? b = some o
  slot : ∀ b o, h.get? b = some o → H b = none → b ∈ fs → b ∉ ex → ∃ sl, h'.get? b = some { o with slots := sl }
  free : ∀ b o, h.get? b = some o → H b = none → b ∉ ex → H' b = none
  there : ∀ b o, h.get? b = some o → b ∉ ex → ∃ o', h'.get? b = some o'
  tups : ∀ b xs, H b = some (.tup xs) → H' b = some (.tup xs)
  frzs : ∀ b o u, H b = some (.frz o u) → H' b = some (.frz o u)
  tbls : ∀ b ps, H b = some (.tbl ps) → ∃ more, H' b = some (.tbl (ps ++ more))
section
variable {fs fs' ex ex' : List Addr} {H H1 H2 : Hp} {h h1 h2 h' : Heap} {a x e : Addr} {o : HO}
theorem Un.any (u : Un fs ex H H1 h h1) {b : Addr} {ob : Obj} (q : h.get? b = some ob) (n : H b = none) (hx : b ∉ ex) : ∃ sl, h1.get? b = some { ob with slots := sl } := by
  by_cases hb : b ∈ fs
  · exact u.slot b ob q n hb hx
  · exact ⟨ob.slots, u.keep b ob q n hb hx⟩
theorem Un.trans (a : Un fs ex H H1 h h1) (b : Un fs ex H1 H2 h1 h2) : Un fs ex H H2 h h2 where
  keep := fun c ob q n hc hx => b.keep c ob (a.keep c ob q n hc hx) (a.free c ob q n hx) hc hx
  slot := fun c ob q n hc hx => by
    obtain ⟨sl, e1⟩ := a.slot c ob q n hc hx
    obtain ⟨sl', e2⟩ := b.slot c _ e1 (a.free c ob q n hx) hc hx
    exact ⟨sl', e2⟩
  free := fun c ob q n hx => by
    obtain ⟨o', e1⟩ := a.there c ob q hx
    exact b.free c o' e1 (a.free c ob q n hx) hx
  there := fun c ob q hx => by
    obtain ⟨o', e1⟩ := a.there c ob q hx
    exact b.there c o' e1 hx
  tups := fun c xs q => b.tups c xs (a.tups c xs q)
  frzs := fun c ob xs q => b.frzs c ob xs (a.frzs c ob xs q)
  tbls := fun c ps q => by
    obtain ⟨m1, e1⟩ := a.tbls c ps q
    obtain ⟨m2, e2⟩ := b.tbls c _ e1
    exact ⟨m1 ++ m2, by rw [e2, Array.append_assoc]⟩
theorem Un.kept (k : ∀ b u, h.get? b = some u → h'.get? b = some u) : Un fs ex H H h h' :=
  ⟨fun b ob q _ _ _ => k b ob q, fun b ob q _ _ _ => ⟨ob.slots, k b ob q⟩, fun _ _ _ n _ => n, fun b ob q _ => ⟨ob, k b ob q⟩, fun _ _ q => q, fun _ _ _ q => q, fun _ ps q => ⟨#[], by rw [q]; simp⟩⟩
theorem Un.refl : Un fs ex H H h h := Un.kept fun _ _ q => q
theorem Un.laid (k : ∀ b u, h.get? b = some u → h'.get? b = some u) (hp : h.objs.size ≤ a) (hn : H a = none) : Un fs ex H (upd H a o) h h' where
  keep := fun b u q _ _ _ => k b u q
  slot := fun b u q _ _ _ => ⟨u.slots, k b u q⟩
  free := fun b u q n _ => by rw [upd_ne (Nat.ne_of_lt (Nat.lt_of_lt_of_le (Heap.lt_size q) hp))]; exact n
  there := fun b u q _ => ⟨u, k b u q⟩
  tups := fun b xs q => by rw [upd_ne (ne_of_none q hn)]; exact q
  frzs := fun b u xs q => by rw [upd_ne (ne_of_none q hn)]; exact q
  tbls := fun b ps q => ⟨#[], by rw [upd_ne (ne_of_none q hn), q]; simp⟩
theorem Un.write (mu : Mut (H x)) (he : e = x ∨ H e = some (.own x)) (k : ∀ b u, b ≠ e → h.get? b = some u → h'.get? b = some u) (heo : ∃ u, h'.get? e = some u) : Un fs ex H (upd H x o) h h' := by
  have hx : ∀ b, H b = none → b ≠ x := fun b n z => by subst z; rw [n] at mu; exact mu
  have hb : ∀ b, H b = none → b ≠ e := fun b n z => by
    subst z
    rcases he with r | r
    · exact hx b n r
    · rw [n] at r; cases r
  have hm : ∀ b u, H b = some u → ¬ Mut (some u) → b ≠ x := fun b u q nm z => by subst z; rw [q] at mu; exact nm mu
  refine ⟨fun b u q n _ _ => k b u (hb b n) q, fun b u q n _ _ => ⟨u.slots, k b u (hb b n) q⟩, fun b u q n _ => by rw [upd_ne (hx b n)]; exact n, fun b u q _ => ?_,
    fun b xs q => by rw [upd_ne (hm b _ q fun z => z)]; exact q, fun b u xs q => by rw [upd_ne (hm b _ q fun z => z)]; exact q, fun b ps q => ⟨#[], by rw [upd_ne (hm b _ q fun z => z), q]; simp⟩⟩
  by_cases hbe : b = e
  · subst hbe; exact heo
  · exact ⟨u, k b u hbe q⟩
theorem Un.mono (u : Un fs ex H H1 h h1) (hs : ∀ b ∈ fs, b ∈ fs') (hx : ∀ b ∈ ex, b ∈ ex') : Un fs' ex' H H1 h h1 :=
  ⟨fun b ob q n hb he => u.keep b ob q n (fun z => hb (hs b z)) fun z => he (hx b z), fun _ _ q n _ he => u.any q n fun z => he (hx _ z), fun b ob q n he => u.free b ob q n fun z => he (hx b z), fun b ob q he => u.there b ob q fun z => he (hx b z), u.tups, u.frzs, u.tbls⟩
end

/-! ### the heap without what is tracked -/
noncomputable def trk (h : Heap) (H : Hp) : List Addr := (List.range h.objs.size).filter fun a => (H a).isSome
noncomputable def hidT (h : Heap) (H : Hp) : Heap := PySem.W.hideAll h (trk h H)
theorem hidT_size (h : Heap) (H : Hp) : (hidT h H).objs.size = h.objs.size := PySem.W.hideAll_size _ _
theorem hidT_get {h : Heap} {H : Hp} {b : Addr} {o : Obj} (e : h.get? b = some o) (n : H b = none) : (hidT h H).get? b = some o :=
  PySem.W.hideAll_get _ e fun hm => by
    have q : (H b).isSome = true := (List.mem_filter.mp hm).2
    rw [n] at q; simp at q
theorem of_hidT {h : Heap} {H : Hp} {b : Addr} {o : Obj} (e : (hidT h H).get? b = some o) : h.get? b = some o ∧ H b = none := by
  have e' : h.get? b = some o := PySem.W.of_hideAll (trk h H) e
  refine ⟨e', ?_⟩
  cases q : H b with
  | none => rfl
  | some x =>
    have hm : b ∈ trk h H := List.mem_filter.mpr ⟨List.mem_range.mpr (Heap.lt_size e'), by simp [q]⟩
    have z : (hidT h H).get? b = none := PySem.W.hideAll_none (trk h H) hm
    rw [z] at e; cases e

/-! ### OpenK's ledger, filled with every new object but one -/
noncomputable def allNews (g h : Heap) (L : Addr) : List (Addr × Obj) := (List.range h.objs.size).filterMap fun a => if a = L ∨ (g.get? a).isSome = true then none else (h.get? a).map fun o => (a, o)
theorem mem_allNews {g h : Heap} {L a : Addr} {o : Obj} (h1 : a ≠ L) (h2 : g.get? a = none) (h3 : h.get? a = some o) : (a, o) ∈ allNews g h L :=
  List.mem_filterMap.mpr ⟨a, List.mem_range.mpr (Heap.lt_size h3), by simp [h1, h2, h3]⟩
theorem of_mem_allNews {g h : Heap} {L : Addr} {p : Addr × Obj} (hp : p ∈ allNews g h L) : p.1 ≠ L ∧ g.get? p.1 = none ∧ h.get? p.1 = some p.2 := by
  obtain ⟨b, _, e⟩ := List.mem_filterMap.mp hp
  split at e
  · cases e
  · rename_i hn
    cases q : h.get? b with
    | none => rw [q] at e; simp at e
    | some u =>
      rw [q] at e
      simp only [Option.map_some, Option.some.injEq] at e
      subst e
      refine ⟨fun z => hn (.inl z), ?_, q⟩
      show g.get? b = none
      cases r : g.get? b with
      | none => rfl
      | some v => exact (hn (.inr (by simp [r]))).elim
noncomputable def rest (g h : Heap) (L d : Addr) : List (Addr × Obj) := (allNews g h L).filter fun p => decide (p.1 ≠ d)
theorem news_all {g h : Heap} {L : Addr} : News g L h (allNews g h L) := fun p hp => let ⟨a, b, c⟩ := of_mem_allNews hp; ⟨c, a, b⟩
end L2

namespace L2
open PySem PySem.Spec PyProof.Rows

/-- the module's facts, over the base: the heap at the law's entry without what is tracked there -/
structure Mod (K : PySem.W.Frag) (mg : Str → Option Value) (base : Heap) : Prop where
  kin : K.In base
  glob : base.Ns mainGlobals mg
  blt : ∃ mb, base.Ns builtinsNs mb ∧ ∀ x : Str, x ≠ "__name__" → mb x = bootBuiltins x
  nolimit : base.NoLimit

/-- the context: a def's body (or a comprehension's block) running. base: fixed through the whole law; s₀, H₀: the entry; outer: the frames whose slots others may change (a def's callers); stack: all frames that run;
   ex: iterators that were made ahead of the entry and are walked here (a comprehension's); fn: the names whose cells were made at the entry (a def: all; a comprehension's block: its own); calm: not within an except suite; pn: pins that every state bears; xe: what is wanted of an exception that leaves the code -/
structure Cx where
  prog : Program
  w : World
  K : PySem.W.Frag
  mg : Str → Option Value
  base : Heap
  A : Around
  N : List Str
  s₀ : Shared
  H₀ : Hp
  env : Env
  outer : List Env
  stack : List Env
  ex : List Addr
  fn : Str → Bool
  calm : Bool
  pn : List (Addr × Obj)
  xe : Value → Shared → Prop
/-- the callers' frames -/
noncomputable def frs (l : List Env) : List Addr := l.filterMap (·.frame)
noncomputable abbrev Cx.fs (X : Cx) : List Addr := frs X.outer

noncomputable def Vis (sc : Scope) (x : Str) : Prop := sc.names.lookup x = some .local ∨ sc.names.lookup x = some .cell ∨ sc.names.lookup x = some .free
noncomputable def Loc (sc : Scope) (x : Str) : Prop := sc.names.lookup x = some .local ∨ sc.names.lookup x = some .cell
noncomputable def Look (env : Env) (h : Heap) (m : Str → Option Value) (x : Str) (u : Value) : Prop :=
  (env.kindOf x = some .local ∧ m x = some u) ∨ ((env.kindOf x = some .cell ∨ env.kindOf x = some .free) ∧ ∃ c, env.cells.lookup x = some c ∧ h.IsCell c (some u))

structure Cx.Ok (X : Cx) : Prop where
  mod : Mod X.K X.mg X.base
  kind : X.env.scope.kind = .function
  glob : X.env.globals = mainGlobals
  blt : X.env.builtins = builtinsNs
  above : X.s₀.heap.objs.size ≤ X.env.locals
  inj : ∀ x y c, X.env.cells.lookup x = some c → X.env.cells.lookup y = some c → x = y
  has : ∀ x, (X.env.kindOf x = some .cell ∨ X.env.kindOf x = some .free) → ∃ c, X.env.cells.lookup x = some c
  cab : ∀ x c, X.fn x = true → X.env.cells.lookup x = some c → X.s₀.heap.objs.size ≤ c
  hd : X.calm = true → X.A.handled = none
  frames : X.A.frames = some X.stack
  stk : X.stack = X.outer ∨ (X.stack = X.env :: X.outer ∧ X.env.frame = some X.env.locals)
  exf : ∀ b ∈ X.ex, b ≠ X.env.locals ∧ ∀ x c, X.env.cells.lookup x = some c → c ≠ b
  bs : ∀ b o, X.base.get? b = some o → X.s₀.heap.get? b = some o ∧ X.H₀ b = none
  bsz : X.base.objs.size ≤ X.s₀.heap.objs.size
  noex : ∀ b o, X.base.get? b = some o → b ∉ X.ex
  exfs : ∀ b ∈ X.ex, b ∉ X.fs
  funs : X.s₀.heap.FunFrames X.base X.outer
  frf : ∀ b ∈ X.fs, X.H₀ b = none

structure Inv (X : Cx) (pins : List (Addr × Obj)) (σ : List (Option V)) (H : Hp) (s : Shared) : Prop where
  ok : X.Ok
  os : s.os = X.s₀.os
  bare : AllBare s.gens
  base : Un X.fs X.ex X.H₀ H X.s₀.heap s.heap
  loc : ∃ m, s.heap.Ns X.env.locals m ∧ ∀ (i : Nat) (x : Str) (v : V), X.N[i]? = some x → σ[i]? = some (some v) → Vis X.env.scope x → ∃ u, RelV v u ∧ Look X.env s.heap m x u
  cell : ∀ x c, X.env.cells.lookup x = some c → ∃ v, s.heap.IsCell c v
  free : H X.env.locals = none
  freeC : ∀ x c, X.env.cells.lookup x = some c → H c = none
  pin : ∀ p ∈ X.pn ++ pins, s.heap.get? p.1 = some p.2 ∧ H p.1 = none ∧ p.1 ≠ X.env.locals ∧ p.1 ∉ X.fs ∧ ∀ v, p.2.data ≠ .cell v
  hok : HOk X.prog X.w H s.heap
  len : σ.length = X.N.length

section
variable {X : Cx} {pins : List (Addr × Obj)} {σ : List (Option V)} {H H' : Hp} {s : Shared} {h' : Heap}

theorem Cx.Ok.nofr (ok : X.Ok) {b : Addr} {o : Obj} (e : X.base.get? b = some o) : b ∉ X.fs := fun hb => by
  have := (ok.funs.mem hb).1
  rw [e] at this; cases this
theorem Inv.bs (I : Inv X pins σ H s) : ∀ b o, X.base.get? b = some o → s.heap.get? b = some o ∧ H b = none := fun b o e =>
  ⟨I.base.keep b o (I.ok.bs b o e).1 (I.ok.bs b o e).2 (I.ok.nofr e) (I.ok.noex b o e), I.base.free b o (I.ok.bs b o e).1 (I.ok.bs b o e).2 (I.ok.noex b o e)⟩
theorem Inv.bk (I : Inv X pins σ H s) : ∀ b o, X.base.get? b = some o → s.heap.get? b = some o := fun b o e => (I.bs b o e).1
theorem Inv.mod (I : Inv X pins σ H s) : Mod X.K X.mg X.base := I.ok.mod
theorem Inv.kIn (I : Inv X pins σ H s) : X.K.In s.heap := I.ok.mod.kin.keeps I.bk
theorem Inv.nolimit (I : Inv X pins σ H s) : s.heap.NoLimit := I.ok.mod.nolimit.keeps I.bk
/-- the frame over the base: for OpenK's rules (K.In X.base is I.mod.kin) -/
theorem Inv.fr (I : Inv X pins σ H s) : ∃ m, Fr X.base X.env.locals s.heap m :=
  let ⟨m, hn, _⟩ := I.loc
  ⟨m, hn, I.bk, Nat.le_trans I.ok.bsz I.ok.above⟩
theorem Inv.lt (I : Inv X pins σ H s) : X.env.locals < s.heap.objs.size := let ⟨_, hn, _⟩ := I.loc; hn.lt
theorem Inv.sz (I : Inv X pins σ H s) : X.s₀.heap.objs.size ≤ s.heap.objs.size := Nat.le_trans I.ok.above (Nat.le_of_lt I.lt)
theorem Inv.nofs (I : Inv X pins σ H s) {a : Addr} (h : s.heap.objs.size ≤ a) : a ∉ X.fs := fun hb => by
  obtain ⟨_, o, ho, _⟩ := I.ok.funs.mem hb
  exact absurd (Nat.lt_of_lt_of_le (Heap.lt_size ho) (Nat.le_trans I.sz h)) (Nat.lt_irrefl _)
theorem Inv.cne (I : Inv X pins σ H s) : ∀ x c, X.env.cells.lookup x = some c → c ≠ X.env.locals := fun x c e z => by
  obtain ⟨v, o, ho, hd⟩ := I.cell x c e
  obtain ⟨m, ⟨o', es, ep, ho', hd', _⟩, _⟩ := I.loc
  rw [z, ho'] at ho; cases ho; rw [hd'] at hd; cases hd
theorem Inv.funs (I : Inv X pins σ H s) : s.heap.FunFrames X.base X.outer := by
  have all : ∀ (l : List Env), (∀ b ∈ frs l, b ∈ X.fs) → X.s₀.heap.FunFrames X.base l → s.heap.FunFrames X.base l := by
    intro l
    induction l with
    | nil => intro _ _; trivial
    | cons env r ih =>
      intro hs hl
      obtain ⟨hk, ⟨L, o, hf, hn, ho, hd⟩, hr⟩ := hl
      have hL : L ∈ X.fs := hs L (by unfold frs; rw [List.filterMap_cons, hf]; exact List.mem_cons_self)
      obtain ⟨sl, e⟩ := I.base.slot L o ho (I.ok.frf L hL) hL fun z => I.ok.exfs L z hL
      exact ⟨hk, ⟨L, _, hf, hn, e, hd⟩, ih (fun b hb => hs b (by unfold frs; rw [List.filterMap_cons, hf]; exact List.mem_cons_of_mem _ hb)) hr⟩
  exact all X.outer (fun _ hb => hb) I.ok.funs

/-- the frames that run, for a call -/
theorem Inv.stack (I : Inv X pins σ H s) : s.heap.FunFrames X.base X.stack := by
  rcases I.ok.stk with e | ⟨e, hf⟩
  · rw [e]; exact I.funs
  · rw [e]
    obtain ⟨m, hn, _⟩ := I.loc
    refine .cons (by rw [I.ok.kind]; decide) hf hn ?_ I.funs
    exact Heap.get?_none_of_le (Nat.le_trans I.ok.bsz I.ok.above)
theorem Inv.stkSub (I : Inv X pins σ H s) : ∀ b ∈ frs X.stack, b ∈ X.env.locals :: X.fs := fun b hb => by
  rcases I.ok.stk with e | ⟨e, hf⟩
  · rw [e] at hb; exact List.mem_cons_of_mem _ hb
  · rw [e] at hb
    unfold frs at hb
    rw [List.filterMap_cons, hf] at hb
    exact hb
theorem Inv.stkFree (I : Inv X pins σ H s) : ∀ b ∈ frs X.stack, H b = none := fun b hb => by
  rcases List.mem_cons.mp (I.stkSub b hb) with e | hb
  · rw [e]; exact I.free
  · obtain ⟨_, o, ho, _⟩ := I.ok.funs.mem hb
    exact I.base.free b o ho (I.ok.frf b hb) fun z => I.ok.exfs b z hb

/-- THE STEP: the untracked objects but the frame and the records at ch are kept (the callers' frames up to slots), the frame's map is kept, the new abstract heap is held -/
theorem Inv.step {g' : Array GenState} {t' : Nat} {d' : Drawn} {ch : List Addr} (I : Inv X pins σ H s)
    (hch : ∀ b ∈ ch, (b ∈ X.ex ∨ X.s₀.heap.objs.size ≤ b) ∧ b ≠ X.env.locals ∧ (∀ x c, X.env.cells.lookup x = some c → c ≠ b) ∧ ∀ p ∈ X.pn ++ pins, p.1 ≠ b)
    (keep : ∀ b o, b ≠ X.env.locals → b ∉ X.fs → b ∉ ch → s.heap.get? b = some o → H b = none → h'.get? b = some o)
    (slot : ∀ b o, b ≠ X.env.locals → b ∈ X.fs → b ∉ ch → s.heap.get? b = some o → H b = none → ∃ sl, h'.get? b = some { o with slots := sl }) (free : ∀ b o, b ∉ ch → s.heap.get? b = some o → H b = none → H' b = none)
    (there : ∀ b o, b ∉ ch → s.heap.get? b = some o → ∃ o', h'.get? b = some o')
    (tups : ∀ b xs, H b = some (.tup xs) → H' b = some (.tup xs)) (frzs : ∀ b o u, H b = some (.frz o u) → H' b = some (.frz o u)) (tbls : ∀ b ps, H b = some (.tbl ps) → ∃ more, H' b = some (.tbl (ps ++ more)))
    (ns : ∀ m, s.heap.Ns X.env.locals m → h'.Ns X.env.locals m) (hok : HOk X.prog X.w H' h') (hg : AllBare g') :
    Inv X pins σ H' { s with heap := h', gens := g', drawn := d', toks := t' } := by
  have neL : ∀ b o, X.s₀.heap.get? b = some o → b ≠ X.env.locals := fun b o e => Nat.ne_of_lt (Nat.lt_of_lt_of_le (Heap.lt_size e) I.ok.above)
  have neC : ∀ b o, X.s₀.heap.get? b = some o → b ∉ X.ex → b ∉ ch := fun b o e hx hb => by
    rcases (hch b hb).1 with z | z
    · exact hx z
    · exact absurd (Nat.lt_of_lt_of_le (Heap.lt_size e) z) (Nat.lt_irrefl _)
  have cellK : ∀ x c, X.env.cells.lookup x = some c → ∀ v, s.heap.IsCell c v → h'.IsCell c v := fun x c e v ⟨o, ho, hd⟩ => by
    have nch : c ∉ ch := fun z => (hch c z).2.2.1 x c e rfl
    by_cases hc : c ∈ X.fs
    · obtain ⟨sl, q⟩ := slot c o (I.cne x c e) hc nch ho (I.freeC x c e)
      exact ⟨_, q, hd⟩
    · exact ⟨o, keep c o (I.cne x c e) hc nch ho (I.freeC x c e), hd⟩
  refine ⟨I.ok, I.os, hg, ⟨fun b o e n hb hx => ?_, fun b o e n hb hx => ?_, fun b o e n hx => ?_, fun b o e hx => ?_, fun b xs e => tups b xs (I.base.tups b xs e), fun b o xs e => frzs b o xs (I.base.frzs b o xs e), fun b ps e => ?_⟩, ?_, fun x c e => ?_, ?_, fun x c e => ?_, fun p hp => ?_, hok, I.len⟩
  · exact keep b o (neL b o e) hb (neC b o e hx) (I.base.keep b o e n hb hx) (I.base.free b o e n hx)
  · obtain ⟨sl, e1⟩ := I.base.slot b o e n hb hx
    obtain ⟨sl', e2⟩ := slot b _ (neL b o e) hb (neC b o e hx) e1 (I.base.free b o e n hx)
    exact ⟨sl', e2⟩
  · obtain ⟨o', e1⟩ := I.base.there b o e hx
    exact free b o' (neC b o e hx) e1 (I.base.free b o e n hx)
  · obtain ⟨o', e1⟩ := I.base.there b o e hx
    exact there b o' (neC b o e hx) e1
  · obtain ⟨m1, e1⟩ := I.base.tbls b ps e
    obtain ⟨m2, e2⟩ := tbls b _ e1
    exact ⟨m1 ++ m2, by rw [e2, Array.append_assoc]⟩
  · obtain ⟨m, hn, hl⟩ := I.loc
    refine ⟨m, ns m hn, fun i x v e1 e2 e3 => ?_⟩
    obtain ⟨u, r, l⟩ := hl i x v e1 e2 e3
    refine ⟨u, r, ?_⟩
    rcases l with l | ⟨k, c, e, z⟩
    · exact .inl l
    · exact .inr ⟨k, c, e, cellK x c e _ z⟩
  · obtain ⟨v, z⟩ := I.cell x c e
    exact ⟨v, cellK x c e v z⟩
  · obtain ⟨m, ⟨o, _, _, ho, _⟩, _⟩ := I.loc
    exact free _ o (fun z => (hch _ z).2.1 rfl) ho I.free
  · obtain ⟨v, o, ho, hd⟩ := I.cell x c e
    exact free c o (fun z => (hch c z).2.2.1 x c e rfl) ho (I.freeC x c e)
  · obtain ⟨e, n, ne, nf, d⟩ := I.pin p hp
    have nch : p.1 ∉ ch := fun z => (hch p.1 z).2.2.2 p hp rfl
    exact ⟨keep p.1 p.2 ne nf nch e n, free p.1 p.2 nch e n, ne, nf, d⟩
/-- .. where the frame's own object is kept too -/
theorem Inv.un {t' : Nat} (I : Inv X pins σ H s) (u : Un X.fs [] H H' s.heap h') (hok : HOk X.prog X.w H' h') : Inv X pins σ H' { s with heap := h', toks := t' } := by
  obtain ⟨m, ⟨o, es, ep, ho, r⟩, _⟩ := id I.loc
  obtain ⟨sl, hL⟩ := u.any ho I.free (by simp)
  exact I.step (g' := s.gens) (d' := s.drawn) (ch := []) (fun _ z => nomatch z) (fun b o _ hb _ e n => u.keep b o e n hb (by simp)) (fun b o _ hb _ e n => u.slot b o e n hb (by simp)) (fun b o _ e n => u.free b o e n (by simp)) (fun b o _ e => u.there b o e (by simp)) u.tups u.frzs u.tbls (fun m' hm => by
    obtain ⟨o', es', ep', ho', r'⟩ := hm
    rw [ho] at ho'; cases ho'
    exact ⟨_, es', ep', hL, r'⟩) hok I.bare
/-- behind a call (or a comprehension's block): the slots of this frame may have changed too, the records at ch may have turned -/
theorem Inv.call {g' : Array GenState} {t' : Nat} {d' : Drawn} {ch : List Addr} (I : Inv X pins σ H s) (u : Un (frs X.stack) ch H H' s.heap h') (hok : HOk X.prog X.w H' h') (hg : AllBare g')
    (hch : ∀ b ∈ ch, (b ∈ X.ex ∨ X.s₀.heap.objs.size ≤ b) ∧ b ≠ X.env.locals ∧ (∀ x c, X.env.cells.lookup x = some c → c ≠ b) ∧ ∀ p ∈ X.pn ++ pins, p.1 ≠ b) :
    Inv X pins σ H' { s with heap := h', gens := g', drawn := d', toks := t' } := by
  obtain ⟨m, ⟨o, es, ep, ho, r⟩, _⟩ := id I.loc
  obtain ⟨sl, hL⟩ := u.any ho I.free fun z => (hch _ z).2.1 rfl
  exact I.step (ch := ch) hch (fun b o hL hb hc e n => u.keep b o e n (fun z => (List.mem_cons.mp (I.stkSub b z)).elim hL hb) hc) (fun b o _ _ hc e n => u.any e n hc) (fun b o hc e n => u.free b o e n hc) (fun b o hc e => u.there b o e hc) u.tups u.frzs u.tbls (fun m' hm => by
    obtain ⟨o', es', ep', ho', r'⟩ := hm
    rw [ho] at ho'; cases ho'
    exact ⟨_, es', ep', hL, r'⟩) hok hg
/-- an untracked record of ours (an iterator) has turned -/
theorem Inv.turned {t' : Nat} {it : Addr} (I : Inv X pins σ H s) (k : ∀ b o, b ≠ it → s.heap.get? b = some o → h'.get? b = some o) (hn : H it = none) (hL : it ≠ X.env.locals)
    (h1 : it ∈ X.ex ∨ X.s₀.heap.objs.size ≤ it) (h2 : ∀ x c, X.env.cells.lookup x = some c → c ≠ it) (h3 : ∀ p ∈ X.pn ++ pins, p.1 ≠ it) : Inv X pins σ H { s with heap := h', toks := t' } := by
  have nit : ∀ b u, H b = some u → b ≠ it := fun b u e z => by rw [z, hn] at e; cases e
  refine I.step (g' := s.gens) (d' := s.drawn) (ch := [it]) (fun b hb => ?_) (fun b o _ _ hc e _ => k b o (fun z => hc (by simp [z])) e) (fun b o _ _ hc e _ => ⟨o.slots, k b o (fun z => hc (by simp [z])) e⟩) (fun _ _ _ _ n => n)
    (fun b o hc e => ⟨o, k b o (fun z => hc (by simp [z])) e⟩) (fun _ _ e => e) (fun _ _ _ e => e) (fun b ps e => ⟨#[], by rw [e]; simp⟩) (fun m hm => ?_) (fun b u e => ?_) I.bare
  · have e : b = it := by simpa using hb
    subst e
    exact ⟨h1, hL, h2, h3⟩
  · obtain ⟨o, es, ep, ho, r⟩ := hm
    exact ⟨o, es, ep, k _ o (Ne.symm hL) ho, r⟩
  · refine (I.hok b u e).stay (fun c v hc q => k c v ?_ q) (fun _ q => q) fun _ _ q => q
    rcases hc with z | z
    · rw [z]; exact nit b u e
    · exact nit c _ z
theorem Inv.tok (I : Inv X pins σ H s) (t : Nat) : Inv X pins σ H { s with toks := t } := I.un (h' := s.heap) (t' := t) Un.refl I.hok
/-- all objects kept -/
theorem Inv.kept {t' : Nat} (I : Inv X pins σ H s) (k : ∀ b u, s.heap.get? b = some u → h'.get? b = some u) : Inv X pins σ H { s with heap := h', toks := t' } := I.un (Un.kept k) (I.hok.kept k)
/-- a new object laid and tracked -/
theorem Inv.laid {a : Addr} {o : HO} {t' : Nat} (I : Inv X pins σ H s) (k : ∀ b u, s.heap.get? b = some u → h'.get? b = some u) (hp : s.heap.objs.size ≤ a) (new : ObjOk X.prog X.w (upd H a o) h' a o) :
    Inv X pins σ (upd H a o) { s with heap := h', toks := t' } := I.un (Un.laid k hp (I.hok.fresh hp)) (I.hok.laid k hp new)
/-- an object written -/
theorem Inv.write {x e : Addr} {o : HO} {t' : Nat} (I : Inv X pins σ H s) (mu : Mut (H x)) (he : e = x ∨ H e = some (.own x)) (k : ∀ b u, b ≠ e → s.heap.get? b = some u → h'.get? b = some u) (heo : ∃ u, h'.get? e = some u)
    (new : ObjOk X.prog X.w (upd H x o) h' x o) : Inv X pins σ (upd H x o) { s with heap := h', toks := t' } := I.un (Un.write mu he k heo) (I.hok.write mu he k heo new)
/-- forgetting slots, pins -/
theorem Inv.weak {σ' : List (Option V)} (I : Inv X pins σ H s) (hl : σ'.length = σ.length) (w : ∀ (i : Nat) v, σ'[i]? = some (some v) → σ[i]? = some (some v)) : Inv X pins σ' H s :=
  ⟨I.ok, I.os, I.bare, I.base, let ⟨m, hn, hl'⟩ := I.loc; ⟨m, hn, fun i x v e1 e2 e3 => hl' i x v e1 (w i v e2) e3⟩, I.cell, I.free, I.freeC, I.pin, I.hok, hl.trans I.len⟩
theorem Inv.pins_of {pins' : List (Addr × Obj)} (I : Inv X pins σ H s) (h : ∀ p ∈ pins', s.heap.get? p.1 = some p.2 ∧ H p.1 = none ∧ p.1 ≠ X.env.locals ∧ p.1 ∉ X.fs ∧ ∀ v, p.2.data ≠ .cell v) : Inv X pins' σ H s :=
  ⟨I.ok, I.os, I.bare, I.base, I.loc, I.cell, I.free, I.freeC, fun p hp => (List.mem_append.mp hp).elim (fun z => I.pin p (List.mem_append_left _ z)) (h p), I.hok, I.len⟩

theorem nodup_ix {N : List Str} (hN : N.Nodup) {i j : Nat} {x : Str} (a : N[i]? = some x) (b : N[j]? = some x) : i = j := by
  obtain ⟨h1, e1⟩ := List.getElem?_eq_some_iff.mp a
  obtain ⟨h2, e2⟩ := List.getElem?_eq_some_iff.mp b
  exact (List.getElem_inj hN).mp (e1.trans e2.symm)

/-- a name is stored; what changed -/
theorem store_ok2 {M : Model} {A : Around} {E : Value → Shared → Prop} {i : Nat} {x : Str} {v : V} {u : Value} {Q : Unit → Shared → Prop} (I : Inv X pins σ H s) (hN : X.N.Nodup) (hi : X.N[i]? = some x) (hx : Loc X.env.scope x) (r : RelV v u)
    (h : ∀ s', Inv X pins (σ.set i (some v)) H s' → (∃ a, Heap.SameBut a s.heap s'.heap ∧ (a = X.env.locals ∨ X.env.cells.lookup x = some a)) → Q () s') (hf : X.fn x = true ∨ X.env.scope.names.lookup x = some .local := by first | exact .inl rfl | exact .inr rfl | assumption) : wpAny M A (storeName X.env x u) Q E s := by
  obtain ⟨m, hn, hl⟩ := id I.loc
  have hcls : (X.env.scope.kind == .class || (X.env.scope.kind == .module && X.env.locals != X.env.globals)) = false := by rw [I.ok.kind]; rfl
  have hiσ : i < σ.length := by rw [I.len]; exact (List.getElem?_eq_some_iff.mp hi).1
  have cne := I.cne
  have tracked : ∀ {a : Addr} {h' : Heap}, (∃ o, s.heap.get? a = some o ∧ H a = none) → Heap.SameBut a s.heap h' → HOk X.prog X.w H h' := fun {a h'} ha hs b ob e => by
    obtain ⟨_, _, hfree⟩ := ha
    refine (I.hok b ob e).stay (fun c w' hc q => (hs.2 c ?_).trans q) (fun _ q => q) fun _ _ q => q
    rintro rfl
    rcases hc with rfl | hc
    · rw [hfree] at e; cases e
    · rw [hfree] at hc; cases hc
  rcases hx with hk | hk
  · refine wpAny_storeName_local hk hn (fun h' hn' hs => ?_) hcls
    obtain ⟨oL, _, _, hoL, _⟩ := id hn
    refine h _ ⟨I.ok, I.os, I.bare, ⟨fun b o e n hb hx => ?_, fun b o e n hb hx => ?_, I.base.free, fun b o e hx => ?_, I.base.tups, I.base.frzs, I.base.tbls⟩, ⟨_, hn', fun j y v' e1 e2 e3 => ?_⟩, fun y c e => ?_, I.free, I.freeC, fun p hp => ?_, tracked ⟨oL, hoL, I.free⟩ hs, by simpa using I.len⟩ ⟨_, hs, .inl rfl⟩
    · exact (hs.2 b (Nat.ne_of_lt (Nat.lt_of_lt_of_le (Heap.lt_size e) I.ok.above))).trans (I.base.keep b o e n hb hx)
    · obtain ⟨sl, e1⟩ := I.base.slot b o e n hb hx
      exact ⟨sl, (hs.2 b (Nat.ne_of_lt (Nat.lt_of_lt_of_le (Heap.lt_size e) I.ok.above))).trans e1⟩
    · obtain ⟨o', e1⟩ := I.base.there b o e hx
      exact ⟨o', (hs.2 b (Nat.ne_of_lt (Nat.lt_of_lt_of_le (Heap.lt_size e) I.ok.above))).trans e1⟩
    · by_cases hj : j = i
      · subst hj
        rw [hi] at e1; cases e1
        rw [List.getElem?_set_self hiσ] at e2
        cases e2
        exact ⟨u, r, .inl ⟨hk, by simp⟩⟩
      · rw [List.getElem?_set_ne (Ne.symm hj)] at e2
        obtain ⟨u', r', q⟩ := hl j y v' e1 e2 e3
        refine ⟨u', r', ?_⟩
        rcases q with ⟨k, e⟩ | ⟨k, c, e, z⟩
        · refine .inl ⟨k, ?_⟩
          have : y ≠ x := fun e => hj (nodup_ix hN e1 (e ▸ hi))
          simp [this, e]
        · exact .inr ⟨k, c, e, z.sameBut hs (cne y c e)⟩
    · obtain ⟨w', z⟩ := I.cell y c e
      exact ⟨w', z.sameBut hs (cne y c e)⟩
    · obtain ⟨e, n, ne, nf, d⟩ := I.pin p hp
      exact ⟨(hs.2 p.1 ne).trans e, n, ne, nf, d⟩
  · have hfn : X.fn x = true := by
      rcases hf with z | z
      · exact z
      · rw [z] at hk; cases hk
    obtain ⟨c, hc⟩ := I.ok.has x (.inl hk)
    obtain ⟨w', z⟩ := I.cell x c hc
    refine wpAny_storeName_cell I.ok.kind hk hc z (fun h' hc' hs => ?_)
    obtain ⟨oc, hoc, hocd⟩ := id z
    refine h { s with heap := h' } ⟨I.ok, I.os, I.bare, ⟨fun b o e n hb hx => ?_, fun b o e n hb hx => ?_, I.base.free, fun b o e hx => ?_, I.base.tups, I.base.frzs, I.base.tbls⟩, ⟨m, hn.sameBut hs (Ne.symm (cne x c hc)), fun j y v' e1 e2 e3 => ?_⟩, fun y c' e => ?_, I.free, I.freeC, fun p hp => ?_, tracked ⟨oc, hoc, I.freeC x c hc⟩ hs, by simpa using I.len⟩ ⟨c, hs, .inr hc⟩
    · exact (hs.2 b (Nat.ne_of_lt (Nat.lt_of_lt_of_le (Heap.lt_size e) (I.ok.cab x c hfn hc)))).trans (I.base.keep b o e n hb hx)
    · obtain ⟨sl, e1⟩ := I.base.slot b o e n hb hx
      exact ⟨sl, (hs.2 b (Nat.ne_of_lt (Nat.lt_of_lt_of_le (Heap.lt_size e) (I.ok.cab x c hfn hc)))).trans e1⟩
    · obtain ⟨o', e1⟩ := I.base.there b o e hx
      exact ⟨o', (hs.2 b (Nat.ne_of_lt (Nat.lt_of_lt_of_le (Heap.lt_size e) (I.ok.cab x c hfn hc)))).trans e1⟩
    · by_cases hj : j = i
      · subst hj
        rw [hi] at e1; cases e1
        rw [List.getElem?_set_self hiσ] at e2
        cases e2
        exact ⟨u, r, .inr ⟨.inl hk, c, hc, hc'⟩⟩
      · rw [List.getElem?_set_ne (Ne.symm hj)] at e2
        obtain ⟨u', r', q⟩ := hl j y v' e1 e2 e3
        refine ⟨u', r', ?_⟩
        rcases q with q | ⟨k, c', e, z'⟩
        · exact .inl q
        · refine .inr ⟨k, c', e, z'.sameBut hs ?_⟩
          rintro rfl
          exact hj (nodup_ix hN e1 (I.ok.inj _ _ _ e hc ▸ hi))
    · by_cases hcc : c' = c
      · subst hcc; exact ⟨_, hc'⟩
      · obtain ⟨w2, z2⟩ := I.cell y c' e
        exact ⟨w2, z2.sameBut hs hcc⟩
    · obtain ⟨e, n, ne, nf, d⟩ := I.pin p hp
      refine ⟨(hs.2 p.1 ?_).trans e, n, ne, nf, d⟩
      intro q
      rw [q, hoc] at e
      have q' : oc = p.2 := Option.some.inj e
      exact d w' (by rw [← q']; exact hocd)
theorem store_ok {M : Model} {A : Around} {E : Value → Shared → Prop} {i : Nat} {x : Str} {v : V} {u : Value} {Q : Unit → Shared → Prop} (I : Inv X pins σ H s) (hN : X.N.Nodup) (hi : X.N[i]? = some x) (hx : Loc X.env.scope x) (r : RelV v u)
    (h : ∀ s', Inv X pins (σ.set i (some v)) H s' → Q () s') (hf : X.fn x = true ∨ X.env.scope.names.lookup x = some .local := by first | exact .inl rfl | exact .inr rfl | assumption) : wpAny M A (storeName X.env x u) Q E s :=
  store_ok2 I hN hi hx r (fun s' I' _ => h s' I') hf
/-- behind a call or a block, the state as it is -/
theorem Inv.call' {s' : Shared} {ch : List Addr} (I : Inv X pins σ H s) (ho : s'.os = s.os) (u : Un (frs X.stack) ch H H' s.heap s'.heap) (hok : HOk X.prog X.w H' s'.heap) (hg : AllBare s'.gens)
    (hch : ∀ b ∈ ch, (b ∈ X.ex ∨ X.s₀.heap.objs.size ≤ b) ∧ b ≠ X.env.locals ∧ (∀ x c, X.env.cells.lookup x = some c → c ≠ b) ∧ ∀ p ∈ X.pn ++ pins, p.1 ≠ b) : Inv X pins σ H' s' := by
  obtain ⟨h', g', d', t', o'⟩ := s'
  have e : o' = s.os := ho
  subst e
  exact I.call (g' := g') (t' := t') (d' := d') u hok hg hch
end

/-! ### the judgements -/
/-- an exception: its class, its own dict's address (where it has one), the abstract heap behind it -/
noncomputable abbrev XK := Value → Option Addr → Hp → Prop
noncomputable abbrev St := List (Option V)
noncomputable abbrev VK := V → Hp → Prop
/-- an expression's reading; a test's; an argument list's -/
noncomputable abbrev TE := St → Hp → VK → Prop
noncomputable abbrev TT := St → Hp → (Bool → Hp → Prop) → Prop
noncomputable abbrev TA := St → Hp → (List V → Hp → Prop) → Prop
/-- what is wanted behind a statement -/
structure Ends where
  nx : St → Hp → Prop
  rt : VK
  bk : St → Hp → Prop := fun _ _ => False
  ct : St → Hp → Prop := fun _ _ => False
noncomputable abbrev TS := Ends → St → Hp → Prop

noncomputable def EP (X : Cx) (pins : List (Addr × Obj)) (σ : St) (Q : VK) (u : Value) (s' : Shared) : Prop := ∃ v H', Inv X pins σ H' s' ∧ RelV v u ∧ Q v H'
noncomputable def TP (X : Cx) (pins : List (Addr × Obj)) (σ : St) (Q : Bool → Hp → Prop) (b : Bool) (s' : Shared) : Prop := ∃ H', Inv X pins σ H' s' ∧ Q b H'
noncomputable def AP (X : Cx) (pins : List (Addr × Obj)) (σ : St) (Q : List V → Hp → Prop) (us : List Value) (s' : Shared) : Prop := ∃ vs H', Inv X pins σ H' s' ∧ Vals vs us ∧ Q vs H'
noncomputable def SP (X : Cx) (pins : List (Addr × Obj)) (D : Ends) (f : Flow) (s' : Shared) : Prop :=
  match f with
  | .next => ∃ σ' H', Inv X pins σ' H' s' ∧ D.nx σ' H'
  | .brk => ∃ σ' H', Inv X pins σ' H' s' ∧ D.bk σ' H'
  | .cont => ∃ σ' H', Inv X pins σ' H' s' ∧ D.ct σ' H'
  | .ret u => ∃ v σ' H', Inv X pins σ' H' s' ∧ RelV v u ∧ D.rt v H'

noncomputable def PE (X : Cx) (e : Expr) (t : TE) : Prop :=
  ∀ (pins : List (Addr × Obj)) (s : Shared) (σ : St) (H : Hp) (Q : VK), Inv X pins σ H s → t σ H Q → wpAny (model X.prog X.w) X.A (eval e X.env) (EP X pins σ Q) X.xe s
noncomputable def PT (X : Cx) (e : Expr) (t : TT) : Prop :=
  ∀ (pins : List (Addr × Obj)) (s : Shared) (σ : St) (H : Hp) (Q : Bool → Hp → Prop), Inv X pins σ H s → t σ H Q → wpAny (model X.prog X.w) X.A (isTrue e X.env (eval e X.env)) (TP X pins σ Q) X.xe s
/-- a test whatever its 'whole' is (and, or) -/
noncomputable def PW (X : Cx) (e : Expr) (t : TT) : Prop :=
  ∀ (whole : Sem Value) (pins : List (Addr × Obj)) (s : Shared) (σ : St) (H : Hp) (Q : Bool → Hp → Prop), Inv X pins σ H s → t σ H Q → wpAny (model X.prog X.w) X.A (isTrue e X.env whole) (TP X pins σ Q) X.xe s
theorem PW.pt {X : Cx} {e : Expr} {t : TT} (h : PW X e t) : PT X e t := h _
/-- an argument list (no star), from the left -/
noncomputable def PA (X : Cx) (es : List Expr) (t : TA) : Prop :=
  ∀ (pos : Pos) (pins : List (Addr × Obj)) (s : Shared) (σ : St) (H : Hp) (Q : List V → Hp → Prop), Inv X pins σ H s → t σ H Q → wpAny (model X.prog X.w) X.A (spliced (backTo pos (starEach es X.env))) (AP X pins σ Q) X.xe s
noncomputable def PS (X : Cx) (st : Stmt) (t : TS) : Prop :=
  ∀ (pins : List (Addr × Obj)) (s : Shared) (σ : St) (H : Hp) (D : Ends), Inv X pins σ H s → t D σ H → wpAny (model X.prog X.w) X.A (exec st X.env) (SP X pins D) X.xe s
noncomputable def PSs (X : Cx) (st : List Stmt) (t : TS) : Prop :=
  ∀ (pins : List (Addr × Obj)) (s : Shared) (σ : St) (H : Hp) (D : Ends), Inv X pins σ H s → t D σ H → wpAny (model X.prog X.w) X.A (execs st X.env) (SP X pins D) X.xe s
/-- weaken the end -/
theorem thn {α : Type} {t : Sem α} {Q Q' : α → Shared → Prop} {M : Model} {A : Around} {E : Value → Shared → Prop} {s : Shared} (h : wpAny M A t Q E s) (hQ : ∀ a s, Q a s → Q' a s) : wpAny M A t Q' E s := wpAny_mono h hQ fun _ _ x => x
end L2

namespace L2
open PySem PySem.Spec PyProof.Rows
section
variable {X : Cx}


/-! ### names and constants -/
noncomputable def tVar (i : Nat) : TE := fun σ H Q => ∃ v, σ[i]? = some (some v) ∧ Q v H
noncomputable def tC (v : V) : TE := fun _ H Q => Q v H
theorem pe_var {i : Nat} {x : Str} {pos : Pos} (hN : X.N[i]? = some x) (hv : Vis X.env.scope x) (hd : (x == ("__debug__" : Str)) = false := by decide) (hcd : (x == ("__classdict__" : Str)) = false := by decide) : PE X (.Name x pos) (tVar i) := by
  intro pins s σ H Q I h
  obtain ⟨v, e, h⟩ := h
  obtain ⟨m, hn, hl⟩ := I.loc
  obtain ⟨u, r, l⟩ := hl i x v hN e hv
  have fin : EP X pins σ Q u s := ⟨v, H, I, r, h⟩
  rcases l with ⟨hk, hm⟩ | ⟨hk, c, hc, hcell⟩
  · exact wpAny_Name (wpAny_loadName_local I.ok.kind hk hn hm fin) hd
  · rcases hk with hk | hk
    · exact wpAny_Name (wpAny_loadName_cell I.ok.kind hk hc hcell fin) hd
    · exact wpAny_Name (wpAny_loadName_free I.ok.kind hk hc hcell fin hcd) hd
theorem pe_int {i j pos} : PE X (.Constant (.int i) j pos) (tC (.int i)) := fun _ _ _ H _ I h => wpAny_Constant_int ⟨.int i, H, I.tok _, ⟨_, rfl⟩, h⟩
theorem pe_bl {b j pos} : PE X (.Constant (.bool b) j pos) (tC (.bl b)) := fun _ _ _ H _ I h => Constant_bool ⟨.bl b, H, I, rfl, h⟩
theorem pe_non {j pos} : PE X (.Constant .none j pos) (tC .non) := fun _ _ _ H _ I h => Constant_none ⟨.non, H, I, rfl, h⟩
theorem pe_str {x j pos} : PE X (.Constant (.str x) j pos) (tC (.str x)) := fun _ _ _ H _ I h => Calls.Constant_str ⟨.str x, H, I.tok _, ⟨_, rfl⟩, h⟩

/-- a global name of the def -/
noncomputable def Gl (X : Cx) (x : Str) : Prop := X.env.kindOf x = some .globalImplicit
theorem ld_glob {E : Value → Shared → Prop} {pins : List (Addr × Obj)} {s : Shared} {σ : St} {H : Hp} {x : Str} {u : Value} {pos : Pos} {Q : Value → Shared → Prop} (I : Inv X pins σ H s) (hg : Gl X x) (hm : X.mg x = some u) (h : Q u s)
    (hd : (x == ("__debug__" : Str)) = false := by decide) : wpAny (model X.prog X.w) X.A (eval (.Name x pos) X.env) Q E s :=
  Calls.Name_function_global I.ok.kind hg (Calls.loadGlobal_global (by rw [I.ok.glob]; exact I.mod.glob.keeps I.bk) hm h) hd
theorem ld_blt {E : Value → Shared → Prop} {pins : List (Addr × Obj)} {s : Shared} {σ : St} {H : Hp} {x : Str} {u : Value} {pos : Pos} {Q : Value → Shared → Prop} (I : Inv X pins σ H s) (hg : Gl X x) (hm : X.mg x = none) (hv : bootBuiltins x = some u) (h : Q u s)
    (hn : x ≠ "__name__" := by decide) (hd : (x == ("__debug__" : Str)) = false := by decide) : wpAny (model X.prog X.w) X.A (eval (.Name x pos) X.env) Q E s := by
  obtain ⟨mb, h1, h2⟩ := I.mod.blt
  exact Calls.Name_function_global I.ok.kind hg (Calls.loadGlobal_builtin (by rw [I.ok.glob]; exact I.mod.glob.keeps I.bk) hm (by rw [I.ok.blt]; exact h1.keeps I.bk) ((h2 x hn).trans hv) h) hd
theorem pe_bltn {x : Str} {v : V} {u : Value} {pos : Pos} (hg : Gl X x) (hm : X.mg x = none) (hv : bootBuiltins x = some u) (r : RelV v u) (hn : x ≠ "__name__" := by decide) (hd : (x == ("__debug__" : Str)) = false := by decide) : PE X (.Name x pos) (tC v) :=
  fun _ _ _ H _ I h => ld_blt I hg hm hv ⟨v, H, I, r, h⟩ hn hd

/-! ### arithmetic -/
variable {a b : Expr} {ta tb : TE} {pos : Pos}

/-! ### comparisons -/
/-- a comparison as a value, as a test -/
noncomputable def tB (t : TE) : TT := fun σ H Q => t σ H fun x H1 => ∃ c, x = .bl c ∧ Q c H1
/-- an expression whose value is a bool, as a test -/
theorem pt_val {e : Expr} {t : TE} (h : PE X e t) (he : ∀ whole, isTrue e X.env whole = (do let v ← whole; standAt e.pos; holding [v] (truthy v)) := by intro _; rfl) : PT X e (tB t) := by
  intro pins s σ H Q I hw
  refine isTrue_plain (thn (h pins s σ H _ I hw) fun v s1 ⟨x, H1, I1, r1, q1⟩ => ?_) (he _)
  obtain ⟨d, rfl, q⟩ := q1
  cases r1
  exact wpAny_truthy_bool ⟨H1, I1, q⟩

/-! ### and, or, not -/
variable {tA tB' : TT} {rest : List Expr}
noncomputable def tAnd (t u : TT) : TT := fun σ H Q => t σ H fun c H1 => if c = true then u σ H1 Q else Q false H1
noncomputable def tOr (t u : TT) : TT := fun σ H Q => t σ H fun c H1 => if c = true then Q true H1 else u σ H1 Q
noncomputable def tNot (t : TT) : TT := fun σ H Q => t σ H fun c H1 => Q (!c) H1
theorem pw_and1 (ha : PT X a tA) : PW X (.BoolOp .And [a] pos) tA := by
  intro wh pins s σ H Q I h
  refine isTrue_and (thn (ha pins s σ H Q I h) fun c s1 e => ?_)
  cases c with
  | true => exact isTrue_and_nil e
  | false => exact e
theorem pw_or1 (ha : PT X a tA) : PW X (.BoolOp .Or [a] pos) tA := by
  intro wh pins s σ H Q I h
  refine isTrue_or (thn (ha pins s σ H Q I h) fun c s1 e => ?_)
  cases c with
  | false => exact isTrue_or_nil e
  | true => exact e
theorem pw_and (ha : PT X a tA) (hb : PW X (.BoolOp .And (b :: rest) pos) tB') : PW X (.BoolOp .And (a :: b :: rest) pos) (tAnd tA tB') := by
  intro wh pins s σ H Q I h
  refine isTrue_and (thn (ha pins s σ H _ I h) fun c s1 ⟨H1, I1, q1⟩ => ?_)
  cases c with
  | true => exact hb wh pins s1 σ H1 Q I1 q1
  | false => exact ⟨H1, I1, q1⟩
theorem pw_or (ha : PT X a tA) (hb : PW X (.BoolOp .Or (b :: rest) pos) tB') : PW X (.BoolOp .Or (a :: b :: rest) pos) (tOr tA tB') := by
  intro wh pins s σ H Q I h
  refine isTrue_or (thn (ha pins s σ H _ I h) fun c s1 ⟨H1, I1, q1⟩ => ?_)
  cases c with
  | true => exact ⟨H1, I1, q1⟩
  | false => exact hb wh pins s1 σ H1 Q I1 q1
theorem pt_not (ha : PT X a tA) : PT X (.UnaryOp .Not a pos) (tNot tA) := by
  intro pins s σ H Q I h
  exact isTrue_not (ha pins s σ H (fun c H1 => Q (!c) H1) I h)
/-- .. as values (bools) -/
noncomputable def tAndV (ta tb : TE) : TE := fun σ H Q => ta σ H fun x H1 => ∃ c, x = .bl c ∧ if c = true then tb σ H1 Q else Q (.bl false) H1
noncomputable def tOrV (ta tb : TE) : TE := fun σ H Q => ta σ H fun x H1 => ∃ c, x = .bl c ∧ if c = true then Q (.bl true) H1 else tb σ H1 Q
noncomputable def tNotV (ta : TE) : TE := fun σ H Q => ta σ H fun x H1 => ∃ c, x = .bl c ∧ Q (.bl (!c)) H1
theorem pe_one {op} {t : TE} (h : PE X a t) : PE X (.BoolOp op [a] pos) t := fun pins s σ H Q I hw => BoolOp_one (h pins s σ H Q I hw)
theorem pe_and (ha : PE X a ta) (hb : PE X (.BoolOp .And (b :: rest) pos) tb) : PE X (.BoolOp .And (a :: b :: rest) pos) (tAndV ta tb) := by
  intro pins s σ H Q I h
  refine BoolOp_and (thn (ha pins s σ H _ I h) fun v s1 ⟨x, H1, I1, r1, q1⟩ => ?_)
  obtain ⟨c, rfl, q1⟩ := q1
  cases r1
  refine wpAny_truthy_bool ?_
  cases c with
  | true => exact hb pins s1 σ H1 Q I1 q1
  | false => exact ⟨.bl false, H1, I1, rfl, q1⟩
/-- a if t else b -/
noncomputable def tIf (t : TT) (ta tb : TE) : TE := fun σ H Q => t σ H fun c H1 => if c = true then ta σ H1 Q else tb σ H1 Q
theorem pe_ifExp {c : Expr} (hc : PT X c tA) (ha : PE X a ta) (hb : PE X b tb) : PE X (.IfExp c a b pos) (tIf tA ta tb) := by
  intro pins s σ H Q I h
  refine wpAny_IfExp (thn (hc pins s σ H _ I h) fun d s1 ⟨H1, I1, q1⟩ => ?_)
  cases d with
  | true => exact ha pins s1 σ H1 Q I1 q1
  | false => exact hb pins s1 σ H1 Q I1 q1
end
end L2

namespace L2
open PySem PySem.Spec PyProof.Rows

/-! ### a list, a tuple that is read: tracked, frozen, or an object of the module -/
noncomputable def SqL (K : PySem.W.Frag) (H : Hp) (a : Addr) (xs : List V) : Prop :=
  Rd H a (.lst xs) ∨
    ∃ (o : Obj) (its : Array Value) (n : Nat), K.lookup a = some o ∧ o.cls = .type "list" ∧ o.dict = none ∧ o.data = .seq its n ∧ its.size ≤ sizeLine ∧ Vals xs its.toList
noncomputable def SqT (K : PySem.W.Frag) (H : Hp) (a : Addr) (xs : List V) : Prop :=
  Rd H a (.tup xs) ∨
    ∃ (o : Obj) (its : Array Value) (n : Nat), K.lookup a = some o ∧ o.cls = .type "tuple" ∧ o.data = .seq its n ∧ its.size ≤ sizeLine ∧ Vals xs its.toList
noncomputable def absV : Value → Option V
  | .none => some .non
  | .bool b => some (.bl b)
  | .int i _ => some (.int i)
  | .str x _ => some (.str x)
  | .bytes b _ => some (.byt b)
  | .float b _ => some (.flt b)
  | .ref a => some (.ref a)
  | .type n => some (.ty n)
  | _ => none
theorem RelV.abs {x : V} {u : Value} (r : RelV x u) : absV u = some x := by
  cases x with
  | non => cases r; rfl
  | bl _ => cases r; rfl
  | int _ => obtain ⟨t, rfl⟩ := r; rfl
  | str _ => obtain ⟨t, rfl⟩ := r; rfl
  | byt _ => obtain ⟨t, rfl⟩ := r; rfl
  | flt _ => obtain ⟨t, rfl⟩ := r; rfl
  | ref _ => cases r; rfl
  | ty _ => cases r; rfl
theorem RelV.inj {x y : V} {u : Value} (r : RelV x u) (q : RelV y u) : x = y := Option.some.inj (r.abs.symm.trans q.abs)
theorem Vals.inj : ∀ {xs ys : List V} {us : List Value}, Vals xs us → Vals ys us → xs = ys
  | _, _, _, .nil, .nil => rfl
  | _, _, _, .cons r t, .cons r' t' => by rw [r.inj r', Vals.inj t t']
section
variable {X : Cx} {pins : List (Addr × Obj)} {σ : St} {H : Hp} {s : Shared} {a : Addr} {xs ys : List V}
theorem SqL.of {K : PySem.W.Frag} (h : H a = some (.lst xs)) : SqL K H a xs := .inl (.inl h)
theorem SqT.of {K : PySem.W.Frag} (h : H a = some (.tup xs)) : SqT K H a xs := .inl (.inl h)
theorem Inv.list (I : Inv X pins σ H s) (h : SqL X.K H a xs) : ∃ its : List Value, Vals xs its ∧ PlainL s.heap a its.toArray ∧ xs.length ≤ sizeLine := by
  rcases h with h | ⟨o, its, n, hk, hc, hd, hs, hz, r⟩
  · obtain ⟨z, its, n, r, e⟩ := h.ok I.hok
    exact ⟨its, r, ⟨_, n, e, rfl, rfl, rfl⟩, z⟩
  · refine ⟨its.toList, r, ⟨o, n, I.kIn a o hk, hc, hd, by simpa using hs⟩, ?_⟩
    have e := r.length
    simp only [Array.length_toList] at e
    omega
theorem Inv.tuple (I : Inv X pins σ H s) (h : SqT X.K H a xs) : ∃ its : List Value, Vals xs its ∧ IsTup s.heap a its.toArray ∧ xs.length ≤ sizeLine := by
  rcases h with h | ⟨o, its, n, hk, hc, hs, hz, r⟩
  · obtain ⟨z, its, r, p⟩ := h.ok I.hok
    exact ⟨its, r, p.1, z⟩
  · refine ⟨its.toList, r, ⟨o, I.kIn a o hk, hc, n, by simpa using hs⟩, ?_⟩
    have e := r.length
    simp only [Array.length_toList] at e
    omega
theorem Inv.list_inj (I : Inv X pins σ H s) (h : SqL X.K H a xs) (h' : SqL X.K H a ys) : xs = ys := by
  obtain ⟨its, r, ⟨o, n, e, _, _, d⟩, _⟩ := I.list h
  obtain ⟨its', r', ⟨o', n', e', _, _, d'⟩, _⟩ := I.list h'
  rw [e] at e'; cases e'
  rw [d] at d'
  injection d' with d1 _
  have : its = its' := by simpa using congrArg Array.toList d1
  subst this
  exact r.inj r'
theorem Inv.tuple_inj (I : Inv X pins σ H s) (h : SqT X.K H a xs) (h' : SqT X.K H a ys) : xs = ys := by
  obtain ⟨its, r, ⟨o, e, _, n, d⟩, _⟩ := I.tuple h
  obtain ⟨its', r', ⟨o', e', _, n', d'⟩, _⟩ := I.tuple h'
  rw [e] at e'; cases e'
  rw [d] at d'
  injection d' with d1 _
  have : its = its' := by simpa using congrArg Array.toList d1
  subst this
  exact r.inj r'
end

/-! ### another wish about exceptions -/
noncomputable abbrev Cx.wish (X : Cx) (E : Value → Shared → Prop) : Cx := { X with xe := E }
/-- no exception leaves -/
noncomputable abbrev Cx.nox (X : Cx) : Cx := X.wish fun _ _ => False
theorem Cx.Ok.wish {X : Cx} (ok : X.Ok) (E : Value → Shared → Prop) : (X.wish E).Ok :=
  ⟨ok.mod, ok.kind, ok.glob, ok.blt, ok.above, ok.inj, ok.has, ok.cab, ok.hd, ok.frames, ok.stk, ok.exf, ok.bs, ok.bsz, ok.noex, ok.exfs, ok.funs, ok.frf⟩
theorem Cx.Ok.unwish {X : Cx} {E : Value → Shared → Prop} (ok : (X.wish E).Ok) : X.Ok :=
  ⟨ok.mod, ok.kind, ok.glob, ok.blt, ok.above, ok.inj, ok.has, ok.cab, ok.hd, ok.frames, ok.stk, ok.exf, ok.bs, ok.bsz, ok.noex, ok.exfs, ok.funs, ok.frf⟩
section
variable {X : Cx} {pins : List (Addr × Obj)} {σ : St} {H : Hp} {s : Shared} {E : Value → Shared → Prop}
theorem Inv.wish (I : Inv X pins σ H s) (E : Value → Shared → Prop) : Inv (X.wish E) pins σ H s := ⟨I.ok.wish E, I.os, I.bare, I.base, I.loc, I.cell, I.free, I.freeC, I.pin, I.hok, I.len⟩
theorem Inv.unwish (I : Inv (X.wish E) pins σ H s) : Inv X pins σ H s := ⟨I.ok.unwish, I.os, I.bare, I.base, I.loc, I.cell, I.free, I.freeC, I.pin, I.hok, I.len⟩
theorem SP.unwish {D : Ends} {f : Flow} {s' : Shared} (h : SP (X.wish E) pins D f s') : SP X pins D f s' := by
  cases f with
  | next => obtain ⟨σ', H', I, q⟩ := h; exact ⟨σ', H', I.unwish, q⟩
  | brk => obtain ⟨σ', H', I, q⟩ := h; exact ⟨σ', H', I.unwish, q⟩
  | cont => obtain ⟨σ', H', I, q⟩ := h; exact ⟨σ', H', I.unwish, q⟩
  | ret u => obtain ⟨v, σ', H', I, r, q⟩ := h; exact ⟨v, σ', H', I.unwish, r, q⟩
theorem PE.nox {e : Expr} {t : TE} (h : PE X.nox e t) : PE X e t := fun pins s σ H Q I hw =>
  wpAny_mono (h pins s σ H Q (I.wish _) hw) (fun _ _ ⟨v, H', I', r, q⟩ => ⟨v, H', I'.unwish, r, q⟩) fun _ _ z => False.elim z
theorem PT.nox {e : Expr} {t : TT} (h : PT X.nox e t) : PT X e t := fun pins s σ H Q I hw =>
  wpAny_mono (h pins s σ H Q (I.wish _) hw) (fun _ _ ⟨H', I', q⟩ => ⟨H', I'.unwish, q⟩) fun _ _ z => False.elim z
theorem PSs.nox {st : List Stmt} {t : TS} (h : PSs X.nox st t) : PSs X st t := fun pins s σ H D I hw =>
  wpAny_mono (h pins s σ H D (I.wish _) hw) (fun _ _ q => q.unwish) fun _ _ z => False.elim z
end

/-! ### blocks and small statements -/
section
variable {X : Cx} {st : Stmt} {rest : List Stmt} {t u : TS} {e : Expr} {te : TE} {pos : Pos}
noncomputable def tNext : TS := fun D σ H => D.nx σ H
noncomputable def tSeq (t u : TS) : TS := fun D σ H => t { D with nx := u D } σ H
theorem pss_nil : PSs X [] tNext := fun _ _ σ H _ I h => wpAny_execs_nil ⟨σ, H, I, h⟩
theorem pss_cons (h1 : PS X st t) (h2 : PSs X rest u) : PSs X (st :: rest) (tSeq t u) := by
  intro pins s σ H D I h
  refine wpAny_execs_cons (thn (h1 pins s σ H { D with nx := u D } I h) fun f s1 q => ?_)
  cases f with
  | next =>
    obtain ⟨σ', H', I', q⟩ := q
    exact h2 pins s1 σ' H' D I' q
  | ret v => exact q
  | brk => exact q
  | cont => exact q
theorem pss_one (h1 : PS X st t) : PSs X [st] t := by
  intro pins s σ H D I h
  refine wpAny_execs_cons (thn (h1 pins s σ H D I h) fun f s1 q => ?_)
  cases f with
  | next => exact wpAny_execs_nil q
  | ret v => exact q
  | brk => exact q
  | cont => exact q
/-- in a def's body nothing is shown -/
theorem Inv.quiet {pins : List (Addr × Obj)} {σ : St} {H : Hp} {s : Shared} (I : Inv X pins σ H s) : interactive X.env = false := by simp [interactive, I.ok.kind]
/-- an expression whose value is dropped -/
noncomputable def tDrop (te : TE) : TS := fun D σ H => te σ H fun _ H1 => D.nx σ H1
theorem ps_expr (he : PE X e te) (hs : swapsWith e none pos.line X.env = pure false := by rfl) : PS X (.Expr e pos) (tDrop te) := by
  intro pins s σ H D I h
  exact wpAny_Expr_any (thn (he pins s σ H _ I h) fun v s1 ⟨x, H1, I1, r1, q1⟩ => ⟨σ, H1, I1, q1⟩) I.quiet hs
noncomputable def tRet (te : TE) : TS := fun D σ H => te σ H D.rt
theorem ps_ret (he : PE X e te) : PS X (.Return (some e) pos) (tRet te) := by
  intro pins s σ H D I h
  exact wpAny_Return_some (thn (he pins s σ H _ I h) fun v s1 ⟨x, H1, I1, r1, q1⟩ => ⟨x, σ, H1, I1, r1, q1⟩)
noncomputable def tIfS (c : TT) (t u : TS) : TS := fun D σ H => c σ H fun b H1 => if b = true then t D σ H1 else u D σ H1
theorem ps_if {c : Expr} {a b : List Stmt} {tc : TT} (hc : PT X c tc) (ha : PSs X a t) (hb : PSs X b u) : PS X (.If c a b pos) (tIfS tc t u) := by
  intro pins s σ H D I h
  refine wpAny_If (thn (hc pins s σ H _ I h) fun d s1 ⟨H1, I1, q1⟩ => ?_)
  cases d with
  | true => exact ha pins s1 σ H1 D I1 q1
  | false => exact hb pins s1 σ H1 D I1 q1
/-- code that the proof never comes to -/
noncomputable def tNever : TS := fun _ _ _ => False
theorem ps_never : PS X st tNever := fun _ _ _ _ _ _ h => h.elim
end

/-! ### targets -/
noncomputable abbrev TG := V → St → Hp → (St → Hp → Prop) → Prop
noncomputable abbrev TGs := List V → St → Hp → (St → Hp → Prop) → Prop
noncomputable def PG (X : Cx) (target : Expr) (t : TG) : Prop :=
  ∀ (pins : List (Addr × Obj)) (s : Shared) (σ : St) (H : Hp) (v : V) (u : Value) (Q : St → Hp → Prop), Inv X pins σ H s → RelV v u → t v σ H Q →
    wpAny (model X.prog X.w) X.A (assign target X.env u) (fun _ s' => ∃ σ' H', Inv X pins σ' H' s' ∧ Q σ' H') X.xe s
/-- several targets, one after another -/
noncomputable def PGs (X : Cx) (ts : List Expr) (t : TGs) : Prop :=
  ∀ (pins : List (Addr × Obj)) (s : Shared) (σ : St) (H : Hp) (vs : List V) (us : List Value) (Q : St → Hp → Prop), Inv X pins σ H s → Vals vs us → t vs σ H Q →
    wpAny (model X.prog X.w) X.A (assignInOrder ((assignEach ts X.env).map (·.2)) us) (fun _ s' => ∃ σ' H', Inv X pins σ' H' s' ∧ Q σ' H') X.xe s
/-- o[i] = v, by values -/
noncomputable abbrev TSet := V → V → V → Hp → (Hp → Prop) → Prop
noncomputable def PSet (X : Cx) (t : TSet) : Prop :=
  ∀ (pins : List (Addr × Obj)) (s : Shared) (σ : St) (H : Hp) (o i v : V) (ov iv u : Value) (Q : Hp → Prop), Inv X pins σ H s → RelV o ov → RelV i iv → RelV v u → t o i v H Q →
    wpAny (model X.prog X.w) X.A (setItem ov iv u) (fun _ s' => ∃ H', Inv X pins σ H' s' ∧ Q H') X.xe s
section
variable {X : Cx} {pos : Pos}
noncomputable def gName (i : Nat) : TG := fun v σ H Q => Q (σ.set i (some v)) H
theorem pg_name {i : Nat} {x : Str} (hN : X.N.Nodup) (hi : X.N[i]? = some x) (hx : Loc X.env.scope x) (hf : X.fn x = true ∨ X.env.scope.names.lookup x = some .local := by first | exact .inl rfl | exact .inr rfl | assumption) : PG X (.Name x pos) (gName i) := by
  intro pins s σ H v u Q I r h
  exact wpAny_assign_Name (store_ok I hN hi hx r (fun s' I' => ⟨_, H, I', h⟩) hf)
noncomputable def gNil : TGs := fun vs σ H Q => vs = [] ∧ Q σ H
noncomputable def gCons (t : TG) (u : TGs) : TGs := fun vs σ H Q => ∃ v r, vs = v :: r ∧ t v σ H fun σ' H' => u r σ' H' Q
theorem pgs_nil : PGs X [] gNil := by
  intro pins s σ H vs us Q I r h
  obtain ⟨e, h⟩ := h
  subst e
  cases r
  exact assignInOrder_nil ⟨σ, H, I, h⟩
theorem pgs_cons {e : Expr} {es : List Expr} {t : TG} {u : TGs} (h1 : PG X e t) (h2 : PGs X es u)
    (hs : (assignEach (e :: es) X.env).map (·.2) = assign e X.env :: (assignEach es X.env).map (·.2) := by rfl) : PGs X (e :: es) (gCons t u) := by
  intro pins s σ H vs us Q I r h
  obtain ⟨v, vr, e1, h⟩ := h
  subst e1
  cases r with
  | cons r rr =>
    rw [hs]
    refine assignInOrder_cons (thn (h1 pins s σ H _ _ _ I r h) fun _ s1 ⟨σ1, H1, I1, q1⟩ => ?_)
    exact h2 pins s1 σ1 H1 _ _ Q I1 rr q1
/-- (a, b, ..) = a tuple of that length -/
noncomputable def gTup (K : PySem.W.Frag) (n : Nat) (t : TGs) : TG := fun v σ H Q => ∃ a xs, v = .ref a ∧ SqT K H a xs ∧ xs.length = n ∧ t xs σ H Q
theorem pg_tup {es : List Expr} {k : Nat} {t : TGs} {n : Nat} (hc : X.calm = true) (h : PGs X es t)
    (hn : (assignEach es X.env).length = n := by rfl) (hst : (assignEach es X.env).findIdx? (·.1) = none := by rfl) : PG X (.Tuple es k pos) (gTup X.K n t) := by
  intro pins s σ H v u Q I r hw
  obtain ⟨a, xs, e1, hq, hl, hw⟩ := hw
  subst e1
  cases r
  obtain ⟨its, rv, ht, hz⟩ := I.tuple hq
  refine assign_Tuple_tuple (I.ok.hd hc) ht (by simp [hn, ← hl, rv.length]) hst fun h' hx => ?_
  have I1 : Inv X pins σ H { s with heap := h' } := I.kept (t' := s.toks) fun b o e => hx b o (Nat.ne_of_lt (Heap.lt_size e)) e
  exact h pins _ σ H xs _ Q I1 (by simpa using rv) hw
/-- o[i] = .. -/
noncomputable def gSub (to ti : TE) (t : TSet) : TG := fun v σ H Q => to σ H fun o H1 => ti σ H1 fun i H2 => t o i v H2 fun H3 => Q σ H3
theorem pg_sub {o i : Expr} {to ti : TE} {t : TSet} (ho : PE X o to) (hi : PE X i ti) (hs : PSet X t)
    (ha : ∀ v, assign (.Subscript o i pos) X.env v = (do
      let ov ← holding [v] (eval o X.env)
      let iv ← holding [v, ov] (eval i X.env)
      standAt pos
      holding [v, ov, iv] (setItem ov iv v)
      release [v, ov, iv] []) := by intro _; rfl) : PG X (.Subscript o i pos) (gSub to ti t) := by
  intro pins s σ H v u Q I r h
  rw [ha]
  refine wpAny_bind (wpAny_holding (thn (ho pins s σ H _ I h) fun ov s1 ⟨x, H1, I1, r1, q1⟩ => ?_))
  refine wpAny_bind (wpAny_holding (thn (hi pins s1 σ H1 _ I1 q1) fun iv s2 ⟨y, H2, I2, r2, q2⟩ => ?_))
  refine wpAny_bind (wpAny_standAt (wpAny_bind (wpAny_holding (thn (hs pins s2 σ H2 x y v ov iv u _ I2 r1 r2 r q2) fun _ s3 ⟨H3, I3, q3⟩ => ?_))))
  exact wpAny_release ⟨σ, H3, I3, q3⟩
/-- target = value -/
noncomputable def tAsg (te : TE) (g : TG) : TS := fun D σ H => te σ H fun x H1 => g x σ H1 D.nx
theorem ps_asg {tg e : Expr} {te : TE} {g : TG} (he : PE X e te) (hg : PG X tg g) (hs : swapsWithSole [tg] e pos.line X.env = pure false := by rfl) (hw : swappedStores [tg] e X.env = pure none := by rfl)
    (h1 : (assignEach [tg] X.env).map (·.2) = [assign tg X.env] := by rfl) : PS X (.Assign [tg] e pos) (tAsg te g) := by
  intro pins s σ H D I h
  refine wpAny_Assign_stores (thn (he pins s σ H _ I h) fun v s1 ⟨x, H1, I1, r1, q1⟩ => ?_) hs hw
  rw [h1]
  exact thn (hg pins s1 σ H1 x v _ I1 r1 q1) fun _ s2 q => q
/-- name = value -/
theorem ps_set {i : Nat} {x : Str} {e : Expr} {te : TE} {pos' : Pos} (hN : X.N.Nodup) (hi : X.N[i]? = some x) (hx : Loc X.env.scope x) (he : PE X e te) (hs : swapsWith e (some (.Name x pos')) pos.line X.env = pure false := by rfl) (hf : X.fn x = true ∨ X.env.scope.names.lookup x = some .local := by first | exact .inl rfl | exact .inr rfl | assumption) :
    PS X (.Assign [.Name x pos'] e pos) (tAsg te (gName i)) := by
  intro pins s σ H D I h
  refine wpAny_Assign_Name (thn (he pins s σ H _ I h) fun v s1 ⟨y, H1, I1, r1, q1⟩ => ?_) hs
  exact store_ok I1 hN hi hx r1 (fun s2 I2 => ⟨_, H1, I2, q1⟩) hf
end

/-! ### while -/
section
variable {X : Cx} {pos : Pos}
/-- the invariant W with its measure -/
noncomputable def tWhile (c : TT) (tb : TS) : TS := fun D σ H => ∃ W : Nat → St → Hp → Prop, (∃ m, W m σ H) ∧ ∀ m σ H, W m σ H →
  c σ H fun b H1 => if b = true then ∃ N : St → Hp → Prop, (∀ σ' H', N σ' H' → ∃ m', m' < m ∧ W m' σ' H') ∧ tb { D with nx := N, ct := N, bk := D.nx } σ H1 else D.nx σ H1
theorem ps_while {c : Expr} {body : List Stmt} {tc : TT} {tb : TS} (hp : PassesOwn (model X.prog X.w) X.A X.env X.xe) (hc : PT X c tc) (hb : PSs X body tb) : PS X (.While c body [] pos) (tWhile tc tb) := by
  intro pins s σ H D I h
  obtain ⟨W, ⟨m0, w0⟩, turn⟩ := h
  refine wpAny_While (codeAny_whileLoop (fun n s' => ∃ σ' H', Inv X pins σ' H' s' ∧ W n σ' H') ?_ m0 ⟨σ, H, I, w0⟩)
  rintro n s1 ⟨σ1, H1, I1, w1⟩
  refine wpAny_passesOwn hp (thn (hc pins s1 σ1 H1 _ I1 (turn n σ1 H1 w1)) fun b s2 ⟨H2, I2, q2⟩ => ?_)
  cases b with
  | true =>
    obtain ⟨N, hN, q2⟩ := q2
    rw [if_pos rfl]
    refine wpAny_passesOwn hp (thn (hb pins s2 σ1 H2 _ I2 q2) fun f s3 q3 => ?_)
    cases f with
    | next =>
      obtain ⟨σ3, H3, I3, n3⟩ := q3
      obtain ⟨m', hm, w3⟩ := hN σ3 H3 n3
      exact ⟨m', hm, σ3, H3, I3, w3⟩
    | cont =>
      obtain ⟨σ3, H3, I3, n3⟩ := q3
      obtain ⟨m', hm, w3⟩ := hN σ3 H3 n3
      exact ⟨m', hm, σ3, H3, I3, w3⟩
    | brk => exact q3
    | ret v => exact q3
  | false =>
    rw [if_neg Bool.false_ne_true]
    exact wpAny_execs_nil ⟨σ1, H2, I2, q2⟩
end

/-! ### what a loop or a comprehension walks -/
/-- at turn i: it yields x (the heap may grow), or it stops -/
structure It where
  go : Nat → Hp → Prop
  yld : Nat → Hp → V → Hp → Prop
  stop : Nat → Hp → Prop
/-- the iterator's own objects may turn: they are not the frame's, not pinned, younger than the entry (or a comprehension's own) -/
noncomputable def FpOk (X : Cx) (pins : List (Addr × Obj)) (H : Hp) (b : Addr) : Prop :=
  H b = none ∧ b ≠ X.env.locals ∧ b ∉ X.fs ∧ (b ∈ X.ex ∨ X.s₀.heap.objs.size ≤ b) ∧ (∀ x c, X.env.cells.lookup x = some c → c ≠ b) ∧ ∀ p ∈ X.pn ++ pins, p.1 ≠ b
theorem Inv.fpOk {X : Cx} {pins : List (Addr × Obj)} {σ : St} {H H' : Hp} {s : Shared} {b : Addr} (I : Inv X pins σ H s) (hb : s.heap.objs.size ≤ b) (hn : H' b = none) : FpOk X pins H' b := by
  refine ⟨hn, Nat.ne_of_gt (Nat.lt_of_lt_of_le I.lt hb), I.nofs hb, .inr (Nat.le_trans I.sz hb), fun x c e z => ?_, fun p hp z => ?_⟩
  · obtain ⟨v, q⟩ := I.cell x c e
    exact absurd (Nat.lt_of_lt_of_le q.lt (by rw [z]; exact hb)) (Nat.lt_irrefl _)
  · exact absurd (Nat.lt_of_lt_of_le (Heap.lt_size (I.pin p hp).1) (by rw [z]; exact hb)) (Nat.lt_irrefl _)
structure Turn (P : Program) (w : World) (K : PySem.W.Frag) (tg : Expr) (J : It) (fp : List Addr) (it : Addr) (tn : Nat → Heap → Prop) : Prop where
  mem : it ∈ fp
  obj : ∀ i h, tn i h → ∀ b ∈ fp, ∃ o, h.get? b = some o ∧ ∀ v, o.data ≠ .cell v
  keep : ∀ i h h', tn i h → (∀ b ∈ fp, ∀ o, h.get? b = some o → h'.get? b = some o) → tn i h'
  item : ∀ (X : Cx), X.prog = P → X.w = w → X.K = K → X.calm = true → ∀ (i : Nat) (pins : List (Addr × Obj)) (s : Shared) (σ : St) (H : Hp) (E : Value → Shared → Prop), Inv X pins σ H s → (∀ b ∈ fp, FpOk X pins H b) → tn i s.heap → J.go i H →
    wpAny (model P w) X.A (pyNext (.ref it)) (fun r s1 => ∃ u, r = some u ∧
      wpAny (model P w) X.A (letOwnedTupleGo tg (.ref it) u) (fun _ s2 => ∃ x H', Inv X pins σ H' s2 ∧ RelV x u ∧ J.yld i H x H' ∧ tn (i + 1) s2.heap ∧ ∀ b ∈ fp, H' b = none) E s1) E s
  done : ∀ (X : Cx), X.prog = P → X.w = w → X.K = K → X.calm = true → ∀ (i : Nat) (pins : List (Addr × Obj)) (s : Shared) (σ : St) (H : Hp) (E : Value → Shared → Prop), Inv X pins σ H s → (∀ b ∈ fp, FpOk X pins H b) → tn i s.heap → J.stop i H →
    wpAny (model P w) X.A (pyNext (.ref it)) (fun r s1 => r = none ∧ Inv X pins σ H s1) E s
  self : ∀ (A : Around) (i : Nat) (s : Shared) (Q : Value → Shared → Prop) (E : Value → Shared → Prop), tn i s.heap → Q (.ref it) s → wpAny (model P w) A (pyIter (.ref it)) Q E s
noncomputable abbrev TI := St → Hp → (It → Hp → Prop) → Prop
/-- an iterator has come -/
noncomputable def PIE (X : Cx) (pins : List (Addr × Obj)) (σ : St) (tg : Expr) (R : It → Hp → Prop) (itv : Value) (s2 : Shared) : Prop :=
  ∃ (it : Addr) (fp : List Addr) (tn : Nat → Heap → Prop) (J : It) (H' : Hp), itv = .ref it ∧ Inv X pins σ H' s2 ∧ Turn X.prog X.w X.K tg J fp it tn ∧ tn 0 s2.heap ∧ (∀ b ∈ fp, FpOk X pins H' b) ∧ R J H'
noncomputable def PI (X : Cx) (tg iter : Expr) (wi : TI) : Prop :=
  ∀ (pins : List (Addr × Obj)) (s : Shared) (σ : St) (H : Hp) (R : It → Hp → Prop), Inv X pins σ H s → wi σ H R →
    wpAny (model X.prog X.w) X.A (eval iter X.env) (fun v s1 => wpAny (model X.prog X.w) X.A (pyIter v) (PIE X pins σ tg R) X.xe s1) X.xe s

/-- the step ahead of the store is nothing for an iterator that keeps no tuple -/
theorem go_of {M : Model} {A : Around} {E : Value → Shared → Prop} {s : Shared} {tg : Expr} {it : Addr} {u : Value} {o : Obj} {n : String} {vs : Array Value} {Q : Unit → Shared → Prop} (ho : s.heap.get? it = some o) (hc : o.cls = .type n) (hd : o.data = .fields vs)
    (hn : ["enumerate", "zip", "dict_itemiterator", "dict_reverseitemiterator", "odict_iterator", "itertools.zip_longest", "itertools.pairwise"].contains n = false) (hQ : Q () s) : wpAny M A (letOwnedTupleGo tg (.ref it) u) Q E s := by
  unfold letOwnedTupleGo
  cases tg <;> first
    | exact wpAny_pure hQ
    | (cases u <;> first
        | exact wpAny_pure hQ
        | (refine wpAny_bind (wpAny_load ho ?_)
           rw [hc, hd]
           show wpAny M A (if (["enumerate", "zip", "dict_itemiterator", "dict_reverseitemiterator", "odict_iterator", "itertools.zip_longest", "itertools.pairwise"].contains n && vs[0]? == some (rawInt _)) = true then _ else _) Q E s
           rw [if_neg (by intro h; rw [hn, Bool.false_and] at h; cases h)]
           exact wpAny_pure hQ))

/-- the list at a, as it stands at each turn (a loop may append to it) -/
noncomputable def Itl (K : PySem.W.Frag) (a : Addr) : It :=
  ⟨fun i H => ∃ xs x, SqL K H a xs ∧ xs[i]? = some x, fun i H x H' => H' = H ∧ ∀ xs, SqL K H a xs → xs[i]? = some x, fun i H => ∃ xs, SqL K H a xs ∧ xs.length ≤ i⟩
noncomputable def Itt (K : PySem.W.Frag) (a : Addr) : It :=
  ⟨fun i H => ∃ xs x, SqT K H a xs ∧ xs[i]? = some x, fun i H x H' => H' = H ∧ ∀ xs, SqT K H a xs → xs[i]? = some x, fun i H => ∃ xs, SqT K H a xs ∧ xs.length ≤ i⟩
/-- lo, lo + 1, .. (n of them) -/
noncomputable def Itr (lo : Int) (n : Nat) : It := ⟨fun i _ => i < n, fun i H x H' => H' = H ∧ x = .int (lo + i), fun i _ => n ≤ i⟩
theorem turn_list {P : Program} {w : World} {K : PySem.W.Frag} {tg : Expr} (a it : Addr) : Turn P w K tg (Itl K a) [it] it (fun i h => h.IsListIter it a i) where
  mem := by simp
  obj := fun i h st b hb => by
    have e : b = it := by simpa using hb
    subst e
    obtain ⟨o, e, c, d⟩ := st
    exact ⟨o, e, fun v z => by rw [d] at z; cases z⟩
  keep := fun i h h' st k => st.at fun o e => k it (by simp) o e
  item := by
    intro X hP hw hK hc i pins s σ H E I hf st hg
    subst hP hw hK
    obtain ⟨xs, x, hq, hx⟩ := hg
    obtain ⟨its, rv, p, hz⟩ := I.list hq
    obtain ⟨u, hu, ru⟩ := rv.get hx
    obtain ⟨f0, f1, f2, f3, f4, f5⟩ := hf it (by simp)
    refine wpAny_pyNext_list_item st p.isList (x := u) (by simpa using hu) fun h' st' sb => ?_
    have I1 : Inv X pins σ H { s with heap := h' } := I.turned (t' := s.toks) (fun b o hb e => (sb.2 b hb).trans e) f0 f1 f3 f4 f5
    obtain ⟨o, e, c, d⟩ := id st'
    exact ⟨u, rfl, go_of (s := { s with heap := h' }) e c d (by decide) ⟨x, H, I1, ru, ⟨rfl, fun ys hy => by rw [I.list_inj hy hq]; exact hx⟩, st', fun b hb => (hf b hb).1⟩⟩
  done := by
    intro X hP hw hK hc i pins s σ H E I hf st hg
    subst hP hw hK
    obtain ⟨xs, hq, hx⟩ := hg
    obtain ⟨its, rv, p, hz⟩ := I.list hq
    obtain ⟨f0, f1, f2, f3, f4, f5⟩ := hf it (by simp)
    have hl := rv.length
    exact wpAny_pyNext_list_end (I.ok.hd hc) st p.isList (by simp; omega) fun h' eb => ⟨rfl, I.turned (t' := s.toks) (fun b o hb e => eb b o hb e) f0 f1 f3 f4 f5⟩
  self := fun _ _ _ _ _ st h => wpAny_pyIter_listiter st h
theorem turn_tuple {P : Program} {w : World} {K : PySem.W.Frag} {tg : Expr} (a it : Addr) : Turn P w K tg (Itt K a) [it] it (fun i h => h.IsTupleIter it a i) where
  mem := by simp
  obj := fun i h st b hb => by
    have e : b = it := by simpa using hb
    subst e
    obtain ⟨o, e, c, d⟩ := st
    exact ⟨o, e, fun v z => by rw [d] at z; cases z⟩
  keep := fun i h h' st k => st.at fun o e => k it (by simp) o e
  item := by
    intro X hP hw hK hc i pins s σ H E I hf st hg
    subst hP hw hK
    obtain ⟨xs, x, hq, hx⟩ := hg
    obtain ⟨its, rv, p, hz⟩ := I.tuple hq
    obtain ⟨u, hu, ru⟩ := rv.get hx
    obtain ⟨f0, f1, f2, f3, f4, f5⟩ := hf it (by simp)
    refine wpAny_pyNext_tuple_item st (show s.heap.IsTuple a its.toArray from p) (x := u) (by simpa using hu) fun h' st' sb => ?_
    have I1 : Inv X pins σ H { s with heap := h' } := I.turned (t' := s.toks) (fun b o hb e => (sb.2 b hb).trans e) f0 f1 f3 f4 f5
    obtain ⟨o, e, c, d⟩ := id st'
    exact ⟨u, rfl, go_of (s := { s with heap := h' }) e c d (by decide) ⟨x, H, I1, ru, ⟨rfl, fun ys hy => by rw [I.tuple_inj hy hq]; exact hx⟩, st', fun b hb => (hf b hb).1⟩⟩
  done := by
    intro X hP hw hK hc i pins s σ H E I hf st hg
    subst hP hw hK
    obtain ⟨xs, hq, hx⟩ := hg
    obtain ⟨its, rv, p, hz⟩ := I.tuple hq
    obtain ⟨f0, f1, f2, f3, f4, f5⟩ := hf it (by simp)
    have hl := rv.length
    exact wpAny_pyNext_tuple_end (I.ok.hd hc) st (show s.heap.IsTuple a its.toArray from p) (by simp; omega) fun h' eb => ⟨rfl, I.turned (t' := s.toks) (fun b o hb e => eb b o hb e) f0 f1 f3 f4 f5⟩
  self := fun _ _ _ _ _ st h => wpAny_pyIter_tupleiter st h
theorem turn_range {P : Program} {w : World} {K : PySem.W.Frag} {tg : Expr} (it : Addr) (lo : Int) (n : Nat) : Turn P w K tg (Itr lo n) [it] it (fun i h => IsRangeIter h it (lo + (i : Nat) * 1) ((n : Int) - (i : Nat)) 1) where
  mem := by simp
  obj := fun i h st b hb => by
    have e : b = it := by simpa using hb
    subst e
    exact ⟨_, st, fun v z => by
      have z' : Data.fields _ = Data.cell v := z
      cases z'⟩
  keep := fun i h h' st k => k it (by simp) _ st
  item := by
    intro X hP hw hK hc i pins s σ H E I hf st hg
    subst hP hw hK
    obtain ⟨f0, f1, f2, f3, f4, f5⟩ := hf it (by simp)
    have W := Walks.range (prog := X.prog) (w := X.w) (I.ok.hd hc) it lo 1 n
    refine W.item i s _ _ hg st fun v h' tk hv st' kk => ?_
    obtain ⟨t, rfl⟩ := hv
    have I1 : Inv X pins σ H { s with heap := h', toks := tk } := I.turned (fun b o hb e => kk b o (by simpa using hb) e) f0 f1 f3 f4 f5
    refine ⟨_, rfl, go_of (s := { s with heap := h', toks := tk }) (n := "range_iterator") st' rfl rfl (by decide) ⟨.int (lo + i), H, I1, ⟨t, ?_⟩, ⟨rfl, rfl⟩, st', fun b hb => (hf b hb).1⟩⟩
    rw [Int.mul_one]
  done := by
    intro X hP hw hK hc i pins s σ H E I hf st hg
    subst hP hw hK
    obtain ⟨f0, f1, f2, f3, f4, f5⟩ := hf it (by simp)
    exact wpAny_pyNext_range_end (I.ok.hd hc) st (by have : n ≤ i := hg; omega) fun h' eb => ⟨rfl, I.turned (t' := s.toks) (fun b o hb e => eb b o hb e) f0 f1 f3 f4 f5⟩
  self := fun _ _ _ _ _ st h => wpAny_pyIter_rangeiter st h
end L2

namespace L2
open PySem PySem.Spec PyProof.Rows
section
variable {X : Cx} {tg : Expr}
noncomputable def iList (K : PySem.W.Frag) (tl : TE) : TI := fun σ H R => tl σ H fun x H1 => ∃ a, x = .ref a ∧ (∃ xs, SqL K H1 a xs) ∧ R (Itl K a) H1
noncomputable def iTup (K : PySem.W.Frag) (tl : TE) : TI := fun σ H R => tl σ H fun x H1 => ∃ a, x = .ref a ∧ (∃ xs, SqT K H1 a xs) ∧ R (Itt K a) H1
theorem pi_list {l : Expr} {tl : TE} (hl : PE X l tl) : PI X tg l (iList X.K tl) := by
  intro pins s σ H R I h
  refine thn (hl pins s σ H _ I h) fun v s1 ⟨x, H1, I1, r1, q1⟩ => ?_
  obtain ⟨a, e, ⟨xs, hq⟩, q⟩ := q1
  subst e
  cases r1
  obtain ⟨its, rv, p, hz⟩ := I1.list hq
  refine wpAny_pyIter_list p.isList ?_
  refine ⟨s1.heap.objs.size, [s1.heap.objs.size], _, _, H1, rfl, I1.kept (t' := s1.toks) fun b o e => Heap.get?_push_of_some _ e, turn_list a _, ⟨_, Heap.get?_push_size _ rfl, rfl, rfl⟩, fun b hb => ?_, q⟩
  have e : b = s1.heap.objs.size := by simpa using hb
  subst e
  exact I1.fpOk (Nat.le_refl _) (I1.hok.fresh (Nat.le_refl _))
theorem pi_tup {l : Expr} {tl : TE} (hl : PE X l tl) : PI X tg l (iTup X.K tl) := by
  intro pins s σ H R I h
  refine thn (hl pins s σ H _ I h) fun v s1 ⟨x, H1, I1, r1, q1⟩ => ?_
  obtain ⟨a, e, ⟨xs, hq⟩, q⟩ := q1
  subst e
  cases r1
  obtain ⟨its, rv, p, hz⟩ := I1.tuple hq
  refine wpAny_pyIter_tuple (show s1.heap.IsTuple a its.toArray from p) ?_
  refine ⟨s1.heap.objs.size, [s1.heap.objs.size], _, _, H1, rfl, I1.kept (t' := s1.toks) fun b o e => Heap.get?_push_of_some _ e, turn_tuple a _, ⟨_, Heap.get?_push_size _ rfl, rfl, rfl⟩, fun b hb => ?_, q⟩
  have e : b = s1.heap.objs.size := by simpa using hb
  subst e
  exact I1.fpOk (Nat.le_refl _) (I1.hok.fresh (Nat.le_refl _))
/-- a range object just made, walked -/
theorem range_it {pins : List (Addr × Obj)} {σ : St} {H : Hp} {s : Shared} {R : It → Hp → Prop} {E : Value → Shared → Prop} {lo hi : Int} {t u v : Tok} {tk : Nat} (I : Inv X pins σ H s) (h1 : -(2 ^ 62) ≤ lo) (h2 : lo < 2 ^ 62) (h3 : -(2 ^ 62) ≤ hi) (h4 : hi < 2 ^ 62)
    (q : R (Itr lo (hi - lo).toNat) H) : wpAny (model X.prog X.w) X.A (pyIter (.ref s.heap.objs.size)) (PIE X pins σ tg R) E { s with heap := s.heap.push { cls := .type "range", data := .fields #[.int lo t, .int hi u, .int 1 v] }, toks := tk } := by
  refine wpAny_pyIter_range (IsRange.new ..) (small_one h1 h2 h3 h4) ?_
  have I1 : Inv X pins σ H { s with heap := s.heap.push { cls := .type "range", data := .fields #[.int lo t, .int hi u, .int 1 v] }, toks := tk } := I.kept fun b o e => Heap.get?_push_of_some _ e
  refine ⟨(s.heap.push { cls := .type "range", data := .fields #[.int lo t, .int hi u, .int 1 v] }).objs.size, [(s.heap.push { cls := .type "range", data := .fields #[.int lo t, .int hi u, .int 1 v] }).objs.size], _, _, H, rfl,
    I1.kept (t' := tk) fun b o e => Heap.get?_push_of_some _ e, turn_range _ lo (hi - lo).toNat, ?_, fun b hb => ?_, q⟩
  · have e1 : lo + ((0 : Nat) : Int) * 1 = lo := by simp
    have e2 : (((hi - lo).toNat : Nat) : Int) - ((0 : Nat) : Int) = Builtin.Range.rangeSize lo hi 1 := by rw [rangeSize_one]; split <;> omega
    show IsRangeIter _ _ (lo + ((0 : Nat) : Int) * 1) ((((hi - lo).toNat : Nat) : Int) - ((0 : Nat) : Int)) 1
    rw [e1, e2]
    exact Heap.get?_push_size _ rfl
  · have e : b = (s.heap.push { cls := .type "range", data := .fields #[.int lo t, .int hi u, .int 1 v] }).objs.size := by simpa using hb
    subst e
    exact I1.fpOk (Nat.le_refl _) (I1.hok.fresh (Nat.le_refl _))
noncomputable def iRng1 (ta : TA) : TI := fun σ H R => ta σ H fun vs H1 => ∃ j : Int, vs = [.int j] ∧ -(2 ^ 62) ≤ j ∧ j < 2 ^ 62 ∧ R (Itr 0 j.toNat) H1
theorem pi_range1 {a : Expr} {ta : TA} {p pos : Pos} (hg : Gl X "range") (hm : X.mg "range" = none) (ha : PA X [a] ta) (hs : starEach [a] X.env = [(false, eval a X.env)] := by rfl) : PI X tg (.Call (.Name "range" p) [a] [] pos) (iRng1 ta) := by
  intro pins s σ H R I h
  refine Call_ (ld_blt I hg hm boot_range (PyProof.Rows.callWith_type1 (thn (ha pos pins s σ H _ I h) fun us s1 ⟨vs, H1, I1, r1, q1⟩ => ?_) hs rfl))
  obtain ⟨j, e, q1, q2, q⟩ := q1
  subst e
  cases r1 with
  | cons r rr =>
    cases rr
    obtain ⟨t, rfl⟩ := r
    exact call_range_1 (range_it I1 (by omega) (by omega) q1 q2 (by simpa using q))

/-! ### for -/
/-- W: the invariant by the turn and a measure; N: what the body is to reach -/
noncomputable def tFor (wi : TI) (g : TG) (tb : TS) : TS := fun D σ H => wi σ H fun J H1 => ∃ W : Nat → Nat → St → Hp → Prop, (∃ m, W 0 m σ H1) ∧ ∀ i m σ H, W i m σ H →
  (J.stop i H ∧ D.nx σ H) ∨ (J.go i H ∧ ∃ N : St → Hp → Prop, (∀ σ' H', N σ' H' → ∃ m', m' < m ∧ W (i + 1) m' σ' H') ∧ ∀ x H', J.yld i H x H' → g x σ H' fun σ2 H2 => tb { D with nx := N, ct := N, bk := D.nx } σ2 H2)
/-- the records at fp as they stand -/
noncomputable def pinsAt (fp : List Addr) (h : Heap) : List (Addr × Obj) := fp.filterMap fun b => (h.get? b).map fun o => (b, o)
theorem mem_pinsAt {fp : List Addr} {h : Heap} {b : Addr} {o : Obj} (hb : b ∈ fp) (e : h.get? b = some o) : (b, o) ∈ pinsAt fp h := List.mem_filterMap.mpr ⟨b, hb, by rw [e]; rfl⟩
theorem of_pinsAt {fp : List Addr} {h : Heap} {p : Addr × Obj} (hp : p ∈ pinsAt fp h) : p.1 ∈ fp ∧ h.get? p.1 = some p.2 := by
  obtain ⟨b, hb, e⟩ := List.mem_filterMap.mp hp
  cases q : h.get? b with
  | none => rw [q] at e; cases e
  | some o =>
    rw [q] at e
    have e' : (b, o) = p := Option.some.inj e
    subst e'
    exact ⟨hb, q⟩
theorem Inv.pinned {pins : List (Addr × Obj)} {σ : St} {H : Hp} {s : Shared} {fp : List Addr} (I : Inv X pins σ H s) (hf : ∀ b ∈ fp, FpOk X pins H b) (ho : ∀ b ∈ fp, ∃ o, s.heap.get? b = some o ∧ ∀ v, o.data ≠ .cell v) : Inv X (pins ++ pinsAt fp s.heap) σ H s :=
  I.pins_of fun p hp => (List.mem_append.mp hp).elim (fun z => I.pin p (List.mem_append_right _ z)) fun z => by
    obtain ⟨hb, e⟩ := of_pinsAt z
    obtain ⟨f0, f1, f2, _⟩ := hf p.1 hb
    obtain ⟨o, e', d⟩ := ho p.1 hb
    rw [e] at e'; cases e'
    exact ⟨e, f0, f1, f2, d⟩
theorem Inv.unpinned {pins pl : List (Addr × Obj)} {σ : St} {H : Hp} {s : Shared} (I : Inv X (pins ++ pl) σ H s) : Inv X pins σ H s := I.pins_of fun p hp => I.pin p (List.mem_append_right _ (List.mem_append_left _ hp))
theorem ps_for {iter : Expr} {body : List Stmt} {wi : TI} {g : TG} {tb : TS} {pos : Pos} (hp : PassesOwn (model X.prog X.w) X.A X.env X.xe) (hc : X.calm = true) (hi : PI X tg iter wi) (hg : PG X tg g) (hb : PSs X body tb)
    (hs : ∀ x, foldedSetIterable iter X.env x = pure x := by intro _; rfl) : PS X (.For tg iter body [] pos) (tFor wi g tb) := by
  intro pins s σ H D I h
  refine wpAny_For (thn (hi pins s σ H _ I h) fun v s1 h1 => thn h1 fun itv s2 h2 => ?_) hs
  obtain ⟨it, fp, tn, J, H2, e, I2, T, st2, f2, W, ⟨m0, w0⟩, turn⟩ := h2
  subst e
  -- what stays true of the iterator's objects through the loop
  have stat : ∀ {H' : Hp}, (∀ b ∈ fp, H' b = none) → ∀ b ∈ fp, FpOk X pins H' b := fun hn b hb => ⟨hn b hb, (f2 b hb).2⟩
  refine codeAny_forLoop_any (fun n s' => ∃ i σ' H', Inv X pins σ' H' s' ∧ tn i s'.heap ∧ (∀ b ∈ fp, H' b = none) ∧ W i n σ' H') ?_ m0 ⟨0, σ, H2, I2, st2, fun b hb => (f2 b hb).1, w0⟩
  rintro n s3 ⟨i, σ3, H3, I3, st3, fr3, w3⟩
  rcases turn i n σ3 H3 w3 with ⟨stop, qn⟩ | ⟨go, N, hN, step⟩
  · refine wpAny_passesOwn hp (thn (T.done X rfl rfl rfl hc i pins s3 σ3 H3 X.xe I3 (stat fr3) st3 stop) fun r s4 ⟨hr, I4⟩ => ?_)
    subst hr
    exact wpAny_execs_nil ⟨σ3, H3, I4, qn⟩
  · refine wpAny_passesOwn hp (thn (T.item X rfl rfl rfl hc i pins s3 σ3 H3 X.xe I3 (stat fr3) st3 go) fun r s4 ⟨u, hr, h4⟩ => ?_)
    subst hr
    refine wpAny_passesOwn hp (thn h4 fun _ s5 ⟨x, H5, I5, r5, y5, st5, fr5⟩ => ?_)
    have I5' := I5.pinned (stat fr5) (T.obj _ _ st5)
    refine wpAny_passesOwn hp (thn (hg _ s5 σ3 H5 x u _ I5' r5 (step x H5 y5)) fun _ s6 ⟨σ6, H6, I6, q6⟩ => ?_)
    refine wpAny_passesOwn hp (thn (hb _ s6 σ6 H6 _ I6 q6) fun f s7 q7 => ?_)
    have again : ∀ {σ7 : St} {H7 : Hp}, Inv X (pins ++ pinsAt fp s5.heap) σ7 H7 s7 → N σ7 H7 → ∃ m, m < n ∧ ∃ i σ' H', Inv X pins σ' H' s7 ∧ tn i s7.heap ∧ (∀ b ∈ fp, H' b = none) ∧ W i m σ' H' := fun {σ7 H7} I7 n7 => by
      obtain ⟨m', hm, w7⟩ := hN σ7 H7 n7
      refine ⟨m', hm, i + 1, σ7, H7, I7.unpinned, T.keep _ _ _ st5 fun b hb o e => (I7.pin (b, o) (List.mem_append_right _ (List.mem_append_right _ (mem_pinsAt hb e)))).1, fun b hb => ?_, w7⟩
      obtain ⟨o, e, d⟩ := T.obj _ _ st5 b hb
      exact (I7.pin (b, o) (List.mem_append_right _ (List.mem_append_right _ (mem_pinsAt hb e)))).2.1
    cases f with
    | next => obtain ⟨σ7, H7, I7, n7⟩ := q7; exact again I7 n7
    | cont => obtain ⟨σ7, H7, I7, n7⟩ := q7; exact again I7 n7
    | brk => obtain ⟨σ7, H7, I7, q7⟩ := q7; exact ⟨σ7, H7, I7.unpinned, q7⟩
    | ret v => obtain ⟨x7, σ7, H7, I7, r7, q7⟩ := q7; exact ⟨x7, σ7, H7, I7.unpinned, r7, q7⟩
end

/-! ### the forms one uses -/
end L2

namespace L2
open PySem PySem.Spec PyProof.Rows

noncomputable abbrev R2 := V → V → Hp → VK → Prop
/-- a two-place operation on values: f is binaryOp op, inplaceOp op or compareOp op -/
noncomputable def OpR (X : Cx) (f : Value → Value → Sem Value) (r : R2) : Prop :=
  ∀ (pins : List (Addr × Obj)) (s : Shared) (σ : St) (H : Hp) (x y : V) (v u : Value) (Q : VK), Inv X pins σ H s → RelV x v → RelV y u → r x y H Q →
    wpAny (model X.prog X.w) X.A (f v u) (EP X pins σ Q) X.xe s
/-- a one-place operation -/
noncomputable def UnR (X : Cx) (f : Value → Sem Value) (r : V → Hp → VK → Prop) : Prop :=
  ∀ (pins : List (Addr × Obj)) (s : Shared) (σ : St) (H : Hp) (x : V) (v : Value) (Q : VK), Inv X pins σ H s → RelV x v → r x H Q →
    wpAny (model X.prog X.w) X.A (f v) (EP X pins σ Q) X.xe s
/-- a call of a value that is known (a builtin, a type) with values -/
noncomputable def CallR (X : Cx) (f : Value) (r : List V → Hp → VK → Prop) : Prop :=
  ∀ (pins : List (Addr × Obj)) (s : Shared) (σ : St) (H : Hp) (xs : List V) (us : List Value) (Q : VK), Inv X pins σ H s → Vals xs us → r xs H Q →
    wpAny (model X.prog X.w) X.A (call f us) (EP X pins σ Q) X.xe s

noncomputable def tOp (r : R2) (ta tb : TE) : TE := fun σ H Q => ta σ H fun x H1 => tb σ H1 fun y H2 => r x y H2 Q
noncomputable def tUn (r : V → Hp → VK → Prop) (ta : TE) : TE := fun σ H Q => ta σ H fun x H1 => r x H1 Q
/-- ints in, under C, and a value out -/
noncomputable def rI (C : Int → Int → Prop) (g : Int → Int → V) : R2 := fun x y H Q => ∃ i j, x = .int i ∧ y = .int j ∧ C i j ∧ Q (g i j) H
noncomputable def rI0 (g : Int → Int → V) : R2 := fun x y H Q => ∃ i j, x = .int i ∧ y = .int j ∧ Q (g i j) H
noncomputable def rU (g : Int → V) : V → Hp → VK → Prop := fun x H Q => ∃ i, x = .int i ∧ Q (g i) H

section
variable {X : Cx} {a b c : Expr} {ta tb tc : TE} {pos : Pos}

theorem binT (ha : PE X a ta) (hb : PE X b tb) {pins : List (Addr × Obj)} {s : Shared} {σ : St} {H : Hp} {R : V → V → Hp → Prop} (I : Inv X pins σ H s)
    (h : ta σ H fun x H1 => tb σ H1 fun y H2 => R x y H2) {Q : Value → Shared → Prop} {f : Value → Value → Sem Value}
    (hf : ∀ v u s2 x y H2, Inv X pins σ H2 s2 → RelV x v → RelV y u → R x y H2 → wpAny (model X.prog X.w) X.A (f v u) Q X.xe s2) :
    wpAny (model X.prog X.w) X.A (eval a X.env) (fun v s₁ => wpAny (model X.prog X.w) X.A (eval b X.env) (fun u s₂ => wpAny (model X.prog X.w) X.A (f v u) Q X.xe s₂) X.xe s₁) X.xe s := by
  refine thn (ha pins s σ H _ I h) fun v s1 ⟨x, H1, I1, r1, q1⟩ => ?_
  refine thn (hb pins s1 σ H1 _ I1 q1) fun u s2 ⟨y, H2, I2, r2, q2⟩ => ?_
  exact hf v u s2 x y H2 I2 r1 r2 q2

theorem pe_op {op : Operator} {r : R2} (ho : OpR X (binaryOp op) r) (ha : PE X a ta) (hb : PE X b tb) : PE X (.BinOp a op b pos) (tOp r ta tb) := by
  intro pins s σ H Q I h
  exact wpAny_BinOp (binT ha hb I h fun v u s2 x y H2 I2 rx ry q => ho pins s2 σ H2 x y v u Q I2 rx ry q)
theorem pe_un {op : UnaryOp} {r : V → Hp → VK → Prop} (ho : UnR X (unaryOp op) r) (ha : PE X a ta) : PE X (.UnaryOp op a pos) (tUn r ta) := by
  intro pins s σ H Q I h
  exact UnaryOp_ (thn (ha pins s σ H _ I h) fun v s1 ⟨x, H1, I1, r1, q1⟩ => ho pins s1 σ H1 x v Q I1 r1 q1)

/-! ### ints -/
theorem opI {f : Value → Value → Sem Value} {C : Int → Int → Prop} {g : Int → Int → Int}
    (rule : ∀ (i j : Int) (t u : Tok) (s : Shared) (Q : Value → Shared → Prop) (E : Value → Shared → Prop), C i j → Q (.int (g i j) s.toks) { s with toks := s.toks + 1 } → wpAny (model X.prog X.w) X.A (f (.int i t) (.int j u)) Q E s) :
    OpR X f (rI C fun i j => .int (g i j)) := by
  intro pins s σ H x y v u Q I rx ry h
  obtain ⟨i, j, rfl, rfl, hc, q⟩ := h
  obtain ⟨t, rfl⟩ := rx
  obtain ⟨t', rfl⟩ := ry
  exact rule i j t t' s _ _ hc ⟨.int (g i j), H, I.tok _, ⟨_, rfl⟩, q⟩
theorem opI0 {f : Value → Value → Sem Value} {g : Int → Int → Int}
    (rule : ∀ (i j : Int) (t u : Tok) (s : Shared) (Q : Value → Shared → Prop) (E : Value → Shared → Prop), Q (.int (g i j) s.toks) { s with toks := s.toks + 1 } → wpAny (model X.prog X.w) X.A (f (.int i t) (.int j u)) Q E s) :
    OpR X f (rI0 fun i j => .int (g i j)) := by
  intro pins s σ H x y v u Q I rx ry h
  obtain ⟨i, j, rfl, rfl, q⟩ := h
  obtain ⟨t, rfl⟩ := rx
  obtain ⟨t', rfl⟩ := ry
  exact rule i j t t' s _ _ ⟨.int (g i j), H, I.tok _, ⟨_, rfl⟩, q⟩
theorem opB0 {f : Value → Value → Sem Value} {g : Int → Int → Bool}
    (rule : ∀ (i j : Int) (t u : Tok) (s : Shared) (Q : Value → Shared → Prop) (E : Value → Shared → Prop), Q (.bool (g i j)) s → wpAny (model X.prog X.w) X.A (f (.int i t) (.int j u)) Q E s) :
    OpR X f (rI0 fun i j => .bl (g i j)) := by
  intro pins s σ H x y v u Q I rx ry h
  obtain ⟨i, j, rfl, rfl, q⟩ := h
  obtain ⟨t, rfl⟩ := rx
  obtain ⟨t', rfl⟩ := ry
  exact rule i j t t' s _ _ ⟨.bl (g i j), H, I, rfl, q⟩

noncomputable def CMul (i j : Int) : Prop := (-(2 ^ 64) < i ∧ i < 2 ^ 64) ∨ (-(2 ^ 64) < j ∧ j < 2 ^ 64)
theorem CMul.ok {i j : Int} (h : CMul i j) : IntMulOk i j := by
  rcases h with ⟨h1, h2⟩ | ⟨h1, h2⟩
  · exact .of_left (intBits_le_64 h1 h2)
  · exact .of_right (intBits_le_64 h1 h2)

theorem op_add : OpR X (binaryOp .Add) (rI0 fun i j => .int (i + j)) := opI0 fun _ _ _ _ _ _ _ q => add_int q
theorem op_sub : OpR X (binaryOp .Sub) (rI0 fun i j => .int (i - j)) := opI0 fun _ _ _ _ _ _ _ q => sub_int q
theorem op_mul : OpR X (binaryOp .Mult) (rI CMul fun i j => .int (i * j)) := opI fun _ _ _ _ _ _ _ hc q => mul_int q hc.ok
/-- % by a positive divisor of any size -/
theorem op_mod : OpR X (binaryOp .Mod) (rI (fun _ j => 0 < j) fun i j => .int (i % j)) := opI fun i j _ _ _ _ _ hc q => by
  have h1 : (0 : Int) < j := hc
  exact mod_int' (by omega) (by rw [Int.fmod_eq_emod_of_nonneg i (by omega)]; exact q)


theorem unI {f : Value → Sem Value} {g : Int → Int}
    (rule : ∀ (i : Int) (t : Tok) (s : Shared) (Q : Value → Shared → Prop) (E : Value → Shared → Prop), Q (.int (g i) s.toks) { s with toks := s.toks + 1 } → wpAny (model X.prog X.w) X.A (f (.int i t)) Q E s) :
    UnR X f (rU fun i => .int (g i)) := by
  intro pins s σ H x v Q I rx h
  obtain ⟨i, rfl, q⟩ := h
  obtain ⟨t, rfl⟩ := rx
  exact rule i t s _ _ ⟨.int (g i), H, I.tok _, ⟨_, rfl⟩, q⟩
theorem un_neg : UnR X (unaryOp .USub) (rU fun i => .int (-i)) := unI fun _ _ _ _ _ q => neg_int q

/-! ### bools among ints: n += (a < b) -/
end

/-! ### comparisons -/


section
variable {X : Cx} {a b c : Expr} {ta tb tc : TE} {pos : Pos}
theorem fin_bl {pins : List (Addr × Obj)} {σ : St} {H : Hp} {s : Shared} {Q : VK} {k k' : Bool} (I : Inv X pins σ H s) (q : Q (.bl k) H) (e : k = k') : EP X pins σ Q (.bool k') s := by
  subst e
  exact ⟨.bl k, H, I, rfl, q⟩

theorem op_lt : OpR X (compareOp .Lt) (rI0 fun i j => .bl (decide (i < j))) := opB0 fun _ _ _ _ _ _ _ q => lt_int q
theorem op_le : OpR X (compareOp .LtE) (rI0 fun i j => .bl (decide (i ≤ j))) := opB0 fun _ _ _ _ _ _ _ q => le_int q
theorem op_gt : OpR X (compareOp .Gt) (rI0 fun i j => .bl (decide (j < i))) := opB0 fun _ _ _ _ _ _ _ q => gt_int q
theorem op_ge : OpR X (compareOp .GtE) (rI0 fun i j => .bl (decide (j ≤ i))) := opB0 fun _ _ _ _ _ _ _ q => ge_int q

/-- is None, is not None: the right side a value none -/
theorem op_isN : OpR X (compareOp .Is) (fun x y H Q => y = .non ∧ Q (.bl (decide (x = .non))) H) := by
  intro pins s σ H x y v u Q I rx ry h
  obtain ⟨rfl, q⟩ := h
  cases ry
  refine is_none_gen (fin_bl I q ?_)
  cases x <;> first
    | (cases rx; rfl)
    | (obtain ⟨t, rfl⟩ := rx; rfl)
theorem op_notN : OpR X (compareOp .IsNot) (fun x y H Q => y = .non ∧ Q (.bl (!decide (x = .non))) H) := by
  intro pins s σ H x y v u Q I rx ry h
  obtain ⟨rfl, q⟩ := h
  cases ry
  refine isnot_none_gen (fin_bl I q ?_)
  cases x <;> first
    | (cases rx; rfl)
    | (obtain ⟨t, rfl⟩ := rx; rfl)


/-- two rules for one operation: by cases -/
theorem OpR.or {f : Value → Value → Sem Value} {r r' : R2} (h : OpR X f r) (h' : OpR X f r') : OpR X f (fun x y H Q => r x y H Q ∨ r' x y H Q) := by
  intro pins s σ H x y v u Q I rx ry q
  rcases q with q | q
  · exact h pins s σ H x y v u Q I rx ry q
  · exact h' pins s σ H x y v u Q I rx ry q

theorem nomark (b : Expr) {op : CmpOp} (h : op ≠ .In := by decide) (h2 : op ≠ .NotIn := by decide) : behindInMarks op b = false := by
  have e1 : (op == CmpOp.In) = false := by cases op <;> first | rfl | exact absurd rfl h
  have e2 : (op == CmpOp.NotIn) = false := by cases op <;> first | rfl | exact absurd rfl h2
  cases b <;> simp [behindInMarks, e1, e2]
/-- a comparison as a value; hm: nomark b, or (for in, not in) by with_unfolding_all rfl -/
theorem pe_cmpR {op : CmpOp} {r : R2} (ho : OpR X (compareOp op) r) (ha : PE X a ta) (hb : PE X b tb) (hm : behindInMarks op b = false) : PE X (.Compare a [op] [b] pos) (tOp r ta tb) := by
  intro pins s σ H Q I h
  exact wpAny_Compare1 (binT ha hb I h fun v u s2 x y H2 I2 rx ry q => ho pins s2 σ H2 x y v u Q I2 rx ry q) hm
/-- a reading of a value as a test -/
noncomputable def tTest (t : TE) : TT := fun σ H Q => t σ H fun x H' => ∃ k, x = .bl k ∧ Q k H'
theorem pt_cmpR {op : CmpOp} {r : R2} (ho : OpR X (compareOp op) r) (ha : PE X a ta) (hb : PE X b tb) (hm : behindInMarks op b = false) : PT X (.Compare a [op] [b] pos) (tTest (tOp r ta tb)) := by
  intro pins s σ H Q I h
  refine wpAny_isTrue_Compare1 (thn (ha pins s σ H _ I h) fun v s1 ⟨x, H1, I1, r1, q1⟩ => thn (hb pins s1 σ H1 _ I1 q1) fun u s2 ⟨y, H2, I2, r2, q2⟩ =>
    thn (ho pins s2 σ H2 x y v u _ I2 r1 r2 q2) fun c s3 ⟨z, H3, I3, r3, k, e, q3⟩ => ?_) hm
  subst e
  cases r3
  exact wpAny_truthy_bool ⟨H3, I3, q3⟩
/-- a op1 b op2 c -/
noncomputable def tChain (r r' : R2) (ta tb tc : TE) : TE := fun σ H Q => ta σ H fun x H1 => tb σ H1 fun y H2 => r x y H2 fun z H3 => ∃ k, z = .bl k ∧
  (if k = true then tc σ H3 fun w' H4 => r' y w' H4 Q else Q (.bl false) H3)
theorem pe_chain {op op' : CmpOp} {r r' : R2} (ho : OpR X (compareOp op) r) (ho' : OpR X (compareOp op') r') (ha : PE X a ta) (hb : PE X b tb) (hc : PE X c tc)
    (hm : lastMarks [op, op'] [b, c] = false := by with_unfolding_all rfl) : PE X (.Compare a [op, op'] [b, c] pos) (tChain r r' ta tb tc) := by
  intro pins s σ H Q I h
  refine Compare_chain (thn (ha pins s σ H _ I h) fun v s1 ⟨x, H1, I1, r1, q1⟩ => chain_link (thn (hb pins s1 σ H1 _ I1 q1) fun u s2 ⟨y, H2, I2, r2, q2⟩ =>
    thn (ho pins s2 σ H2 x y v u _ I2 r1 r2 q2) fun d s3 ⟨z, H3, I3, r3, k, e, q3⟩ => ?_)) hm
  subst e
  cases r3
  refine wpAny_truthy_bool ?_
  cases k with
  | false => exact ite_ff ⟨.bl false, H3, I3, rfl, q3⟩
  | true => exact ite_tt (chain_last (thn (hc pins s3 σ H3 _ I3 q3) fun w' s4 ⟨z', H4, I4, r4, q4⟩ => ho' pins s4 σ H4 y z' u w' Q I4 r2 r4 q4))

/-! ### truth -/
theorem line63 : (sizeLine : Nat) < 2 ^ 63 := by rw [sizeLine_eq]; decide

/-! ### strs and bytes -/


/-! ### scalar builtins, by CallR -/
theorem vals1 {x : V} {us : List Value} (r : Vals [x] us) : ∃ u, us = [u] ∧ RelV x u := by
  cases r with
  | cons r1 r2 => cases r2; exact ⟨_, rfl, r1⟩
theorem vals2 {x y : V} {us : List Value} (r : Vals [x, y] us) : ∃ u w', us = [u, w'] ∧ RelV x u ∧ RelV y w' := by
  cases r with
  | cons r1 r2 =>
    cases r2 with
    | cons r3 r4 => cases r4; exact ⟨_, _, rfl, r1, r3⟩
theorem call_max2 (hc : X.calm = true) : CallR X (.builtin "max") (fun xs H Q => ∃ i j, xs = [.int i, .int j] ∧ Q (.int (if j > i then j else i)) H) := by
  intro pins s σ H xs us Q I r h
  obtain ⟨i, j, rfl, q⟩ := h
  obtain ⟨u, w', rfl, ⟨t, rfl⟩, ⟨t', rfl⟩⟩ := vals2 r
  refine max_two_ints (I.ok.hd hc) fun h' tk k => ⟨_, H, I.kept k, ?_, q⟩
  by_cases hj : j > i
  · rw [if_pos hj, if_pos hj]; exact ⟨_, rfl⟩
  · rw [if_neg hj, if_neg hj]; exact ⟨_, rfl⟩
theorem call_int1 : CallR X (.type "int") (fun xs H Q => (∃ i, xs = [.int i] ∧ Q (.int i) H) ∨ ∃ k, xs = [.bl k] ∧ Q (.int (if k then 1 else 0)) H) := by
  intro pins s σ H xs us Q I r h
  rcases h with ⟨i, rfl, q⟩ | ⟨k, rfl, q⟩
  · obtain ⟨u, rfl, t, rfl⟩ := vals1 r
    exact call_int_int ⟨.int i, H, I, ⟨_, rfl⟩, q⟩
  · obtain ⟨u, rfl, r1⟩ := vals1 r
    cases r1
    exact call_int_bool ⟨.int (if k then 1 else 0), H, I.tok _, ⟨_, rfl⟩, q⟩
end
end L2

namespace L2
open PySem PySem.Spec PyProof.Rows

/-! ### an instance, its attributes a map -/
structure ObjM (h : Heap) (x dx C : Addr) (mA : Str → Option Value) : Prop where
  obj : h.get? x = some (PySem.W.instObj C dx)
  ns : h.Ns1 dx mA
  ne : dx ≠ x

theorem lookIn_ns {h : Heap} {dx : Addr} {mA : Str → Option Value} (n : h.Ns1 dx mA) : ∃ od, h.get? dx = some od ∧ ∀ name, PySem.W.lookIn name od = some (mA name) := by
  obtain ⟨o, es, ep, ho, hd, hk, _, hm⟩ := n
  refine ⟨o, ho, fun name => ?_⟩
  have e := hm name
  unfold nsFind findBy at e
  rw [← Array.find?_toList] at e
  unfold PySem.W.lookIn
  rw [hd]
  dsimp only
  split
  · rename_i y q
    rw [q] at e
    exact congrArg some e
  · rename_i q
    rw [q] at e
    have a : es.toList.any (·.refKey) = false := by
      rw [List.any_eq_false]
      intro y hy
      obtain ⟨z, t, hkey⟩ := hk y (Array.mem_toList_iff.mp hy)
      simp [DictEntry.refKey, hkey]
    have a' : ¬ es.toList.any (·.refKey) = true := by rw [a]; exact Bool.false_ne_true
    rw [if_neg a']
    exact congrArg some e

theorem ObjM.look {h : Heap} {x dx C : Addr} {mA : Str → Option Value} (I : ObjM h x dx C mA) : ∃ od, PySem.W.InstAt h x (PySem.W.instObj C dx) C (some od) ∧ ∀ name, PySem.W.lookIn name od = some (mA name) :=
  let ⟨od, ho, hl⟩ := lookIn_ns I.ns
  ⟨od, ⟨I.obj, rfl, rfl, ho⟩, hl⟩

section
variable {prog : Program} {w : World} {A : Around} {E : Value → Shared → Prop} {s : Shared} {K : PySem.W.Frag} {x dx C f : Addr} {mA : Str → Option Value} {name : Str} {v : Value}




theorem set_map {ns : List Str} {Q : Unit → Shared → Prop} (X : K.In s.heap) (I : ObjM s.heap x dx C mA)
    (hs : PySem.W.findIn K (.ref C) "__setattr__" = some (some (.builtin "object.__setattr__"))) (hp : PySem.W.plainOver K C = true) (ht : PySem.W.takerIn K C name = some none) (hh : PySem.W.hasDictIn K C = true)
    (hw : PySem.Within mA ns) (hsz : ns.length ≤ sizeLine)
    (h : ∀ h', ObjM h' x dx C (fun y => if y = name then some v else mA y) → Heap.SameBut dx s.heap h' → Q () { s with heap := h', toks := s.toks + 2 }) :
    wpAny (model prog w) A (setAttr (.ref x) name v) Q E s := by
  obtain ⟨od, J, hl⟩ := I.look
  refine PySem.W.set_plain X J hs (PySem.W.osa_open (s := { s with toks := s.toks + 1 }) (r := none) X J hp ht fun b => ?_)
  obtain ⟨cd, hc, hd'⟩ := PySem.W.any_some hh
  have hx : s.heap.get? x = some ⟨.ref C, some dx, .plain, #[]⟩ := I.obj
  refine wpAny_bind (wpAny_pure (wpAny_bind (wpAny_bind (wpAny_loadPart hx (wpAny_bind (PySem.W.Looks.here (s := { s with toks := s.toks + 1 }) (PySem.W.looks_clsIn X hc) ?_))))))
  rw [hd']
  refine wpAny_pure (a := some dx) (wpAny_bind (wpAny_pure (wpAny_bind ?_)))
  refine wpAny_nsSet1 (s := { s with toks := s.toks + 1 }) I.ns fun h' hn2 hs2 => ?_
  obtain ⟨oD, esD, epD, hoD, hdD, hcD⟩ := hn2.count (PySem.Within.cons name v hw)
  refine wpAny_bind (wpAny_lookBehind hoD (by rw [hdD]; exact pastItsLine_dict (Nat.le_trans hcD (by rw [List.length_cons]; omega))) ?_)
  exact wpAny_pure (h _ ⟨(hs2.2 _ (Ne.symm I.ne)).trans I.obj, hn2, I.ne⟩ hs2)

end

/-! ### the attributes as a list of pairs -/

theorem RelO.none_of {o : Option Value} (r : RelO none o) : o = none := by
  cases o with
  | none => rfl
  | some u => exact (show False from r).elim

section
variable {P : Program} {w : World} {H H' : Hp} {h h' : Heap} {a C dx : Addr} {fs fs' : List (Str × V)}
theorem ins_get (hok : HOk P w H h) (e : H a = some (.ins C dx fs)) : ∃ mA, ObjM h a dx C mA ∧ (∀ f, RelO (fs.lookup f) (mA f)) ∧ PySem.Within mA (fs.map (·.1)) ∧ fs.length ≤ 1000 ∧ H dx = some (.own a) := by
  obtain ⟨d, z, ne, ob, mA, n, r, q⟩ := (show ObjOk P w H h a (.ins C dx fs) from hok a _ e)
  exact ⟨mA, ⟨ob, n, ne⟩, r, q, z, d⟩
end

/-! ### what of the text a class must have -/
structure Cls (K : PySem.W.Frag) (C : Addr) : Prop where
  pg : PySem.W.plainGet K C Str.empty = true
  hd : PySem.W.hasDictIn K C = true
  po : PySem.W.plainOver K C = true
  sa : PySem.W.findIn K (.ref C) "__setattr__" = some (some (.builtin "object.__setattr__"))
theorem Cls.get {K : PySem.W.Frag} {C : Addr} (c : Cls K C) (f : Str) : PySem.W.plainGet K C f = true := c.pg
/-- a constant of the class -/
structure Con (K : PySem.W.Frag) (C : Addr) (f : Str) (v : V) (u : Value) : Prop where
  at_ : PySem.W.findIn K (.ref C) f = some (some u)
  rel : RelV v u
  get : PySem.W.specialIn K u "__get__" = some none
  cp : PySem.W.copiedNames.contains f = false
/-- a method: a plain def of the class or of one above it -/
structure Meth (K : PySem.W.Frag) (C : Addr) (m : Str) (f : Addr) : Prop where
  at_ : PySem.W.findIn K (.ref C) m = some (some (.ref f))
  fn : PySem.W.isFn K (.ref f) = true
  kp : PySem.W.keepIn K (.ref f) = true

section
variable {X : Cx} {pins : List (Addr × Obj)} {σ : St} {H : Hp} {s : Shared} {a C dx : Addr} {fs : List (Str × V)} {f : Str} {v : V} {A : Around} {E : Value → Shared → Prop}






end

/-! ### readings and rules -/

section
variable {X : Cx} {o e value : Expr} {f : Str} {pos pos' tpos : Pos} {ta tv : TE}

end

/-! ### isinstance -/
section
variable {X : Cx} {pins : List (Addr × Obj)} {σ : St} {H : Hp} {s : Shared} {A : Around} {E : Value → Shared → Prop} {Q : Value → Shared → Prop} {c : Value} {b : Bool}
/-- the type of a value, as the fragment's deciders take it; for an instance its class -/
inductive TyOf (K : PySem.W.Frag) (H : Hp) : V → Value → Prop where
  | non : TyOf K H .non (.type "NoneType")
  | bl (x : Bool) : TyOf K H (.bl x) (.type "bool")
  | int (i : Int) : TyOf K H (.int i) (.type "int")
  | str (x : Str) : TyOf K H (.str x) (.type "str")
  | flt (x : UInt64) : TyOf K H (.flt x) (.type "float")
  | lst {a : Addr} {xs : List V} (e : H a = some (.lst xs)) : TyOf K H (.ref a) (.type "list")
  | frz {a : Addr} {o : Obj} {xs : List V} (e : H a = some (.frz o (.lst xs))) : TyOf K H (.ref a) (.type "list")
  | tup {a : Addr} {xs : List V} (e : H a = some (.tup xs)) : TyOf K H (.ref a) (.type "tuple")
  | dK {a : Addr} {kvs : List (Key × V)} (e : H a = some (.dK kvs)) : TyOf K H (.ref a) (.type "dict")
  | dT {a : Addr} {kvs : List (List Key × V)} (e : H a = some (.dT kvs)) : TyOf K H (.ref a) (.type "dict")
  | ins {a C dx : Addr} {fs : List (Str × V)} (e : H a = some (.ins C dx fs)) (cl : Cls K C) (ha : PySem.W.findIn K (.ref C) "__class__" = some (some (.builtin "object.__class__")))
      (hn : PySem.W.specialIn K (.builtin "object.__class__") "__get__" = some (some (.builtin "getset_descriptor.__get__"))) (htk : PySem.W.takesIn K (.builtin "object.__class__") = some true)
      (hm : PySem.W.mroIn K C (.type "object") = some true) : TyOf K H (.ref a) (.ref C)
/-- isinstance(x, c) for one class c, a built-in or an own one: kitOne's answer -/
theorem isinst_ok {x : V} {u t : Value} (I : Inv X pins σ H s) (rx : RelV x u) (ty : TyOf X.K H x t) (e : PySem.W.kitOne X.K t c = some b) (h : ∀ tk, Q (.bool b) { s with toks := tk }) :
    wpAny (model X.prog X.w) A (call (.builtin "isinstance") [u, c]) Q E s := by
  cases ty with
  | non => cases (show u = Value.none from rx); exact PySem.W.kia_one PySem.W.kitx_none I.kIn True.intro e (fun z => nomatch z) h
  | bl y => cases (show u = Value.bool y from rx); exact PySem.W.kia_one PySem.W.kitx_bool I.kIn True.intro e (fun z => nomatch z) h
  | int i => obtain ⟨t, q⟩ := (show ∃ t, u = Value.int i t from rx); cases q; exact PySem.W.kia_one PySem.W.kitx_int I.kIn True.intro e (fun z => nomatch z) h
  | str y => obtain ⟨t, q⟩ := (show ∃ t, u = Value.str y t from rx); cases q; exact PySem.W.kia_one PySem.W.kitx_str I.kIn True.intro e (fun z => nomatch z) h
  | flt y => obtain ⟨t, q⟩ := (show ∃ t, u = Value.float y t from rx); cases q; exact PySem.W.kia_one PySem.W.kitx_float I.kIn True.intro e (fun z => nomatch z) h
  | @lst a xs ea =>
    cases (show u = Value.ref a from rx)
    obtain ⟨_, _, n, _, h1⟩ := (show ObjOk X.prog X.w H s.heap a (.lst xs) from I.hok a _ ea)
    exact PySem.W.kia_one PySem.W.kitx_list I.kIn ⟨_, h1, rfl⟩ e (fun z => nomatch z) h
  | @frz a ob xs ea =>
    cases (show u = Value.ref a from rx)
    obtain ⟨_, _, _, n, _, h1⟩ := (show ObjOk X.prog X.w H s.heap a (.frz ob (.lst xs)) from I.hok a _ ea)
    exact PySem.W.kia_one PySem.W.kitx_list I.kIn ⟨_, h1, rfl⟩ e (fun z => nomatch z) h
  | @tup a xs ea =>
    cases (show u = Value.ref a from rx)
    obtain ⟨_, _, _, p⟩ := (show ObjOk X.prog X.w H s.heap a (.tup xs) from I.hok a _ ea)
    obtain ⟨o, h1, h2, _⟩ := p.1
    exact PySem.W.kia_one PySem.W.kitx_tuple I.kIn ⟨o, h1, h2⟩ e (fun z => nomatch z) h
  | @dK a kvs ea =>
    cases (show u = Value.ref a from rx)
    obtain ⟨_, _, vs, _, p⟩ := (show ObjOk X.prog X.w H s.heap a (.dK kvs) from I.hok a _ ea)
    obtain ⟨o, es, ep, h1, h2, _⟩ := p
    exact PySem.W.kia_one PySem.W.kitx_dict I.kIn ⟨o, h1, h2.1⟩ e (fun z => nomatch z) h
  | @dT a kvs ea =>
    cases (show u = Value.ref a from rx)
    obtain ⟨_, _, xs, _, o, es, ep, h1, h2, _⟩ := (show ObjOk X.prog X.w H s.heap a (.dT kvs) from I.hok a _ ea)
    exact PySem.W.kia_one PySem.W.kitx_dict I.kIn ⟨o, h1, h2.1⟩ e (fun z => nomatch z) h
  | @ins a C dx fs ea cl ha hn htk hm =>
    cases (show u = Value.ref a from rx)
    obtain ⟨mA, O, _⟩ := ins_get I.hok ea
    obtain ⟨od, J, _⟩ := O.look
    exact PySem.W.kia_one (PySem.W.kitx_own (cl.get _) cl.hd ha hn htk hm) I.kIn J e (fun z => nomatch z) h
end
end L2

namespace L2
open PySem PySem.Spec PyProof.Rows

/-! ### room -/
structure Room (k : Nat) (A : Around) : Prop where
  hd : A.handled = none
  dp : A.depth + 3 * k + 5 < recursionLimit
  un : A.units + 16 * k + 200 < cLine
theorem Room.mono {j k : Nat} {A : Around} (r : Room k A) (h : j ≤ k) : Room j A := ⟨r.hd, by have := r.dp; omega, by have := r.un; omega⟩
theorem Room.deeper {k : Nat} {A : Around} (r : Room (k + 1) A) (env : Env) : Room k (A.deeper env) :=
  ⟨r.hd, by have := r.dp; show A.depth + 1 + 3 * k + 5 < _; omega, by have := r.un; show A.units + 3 + 16 * k + 200 < _; omega⟩
theorem Room.in1 {k : Nat} {A : Around} (r : Room (k + 1) A) : Room k A.in1 :=
  ⟨r.hd, by have := r.dp; show A.depth + 3 * k + 5 < _; omega, by have := r.un; show A.units + 1 + 16 * k + 200 < _; omega⟩
theorem Room.depth {k : Nat} {A : Around} (r : Room k A) : A.depth < recursionLimit := by have := r.dp; omega
theorem Room.units {k : Nat} {A : Around} (r : Room k A) : A.units + 64 < cLine := by have := r.un; omega
theorem Room.units0 {k : Nat} {A : Around} (r : Room k A) : A.units < cLine := by have := r.un; omega

/-! ### argument lists and displays -/
noncomputable def tNil : TA := fun _ H Q => Q [] H
noncomputable def tCons (ta : TE) (tr : TA) : TA := fun σ H Q => ta σ H fun x H1 => tr σ H1 fun xs H2 => Q (x :: xs) H2
section
variable {X : Cx} {e : Expr} {es : List Expr} {te : TE} {t : TA} {pos : Pos}
theorem pa_nil : PA X [] tNil := fun _ _ _ _ H Q I h => Calls.spliced_nil ⟨[], H, I, .nil, h⟩
theorem pa_cons (ha : PE X e te) (hr : PA X es t) (hs : starEach (e :: es) X.env = (false, eval e X.env) :: starEach es X.env := by rfl) : PA X (e :: es) (tCons te t) := by
  intro pos pins s σ H Q I h
  rw [hs]
  show wpAny _ _ (spliced ((false, eval e X.env) :: backTo pos (starEach es X.env))) _ _ s
  refine Calls.spliced_cons (thn (ha pins s σ H _ I h) fun u s1 ⟨x, H1, I1, r1, q1⟩ => ?_)
  exact thn (hr pos pins s1 σ H1 _ I1 q1) fun us s2 ⟨xs, H2, I2, r2, q2⟩ => ⟨x :: xs, H2, I2, .cons r1 r2, q2⟩

/-- a tuple, a list of written items -/
noncomputable def tTup (t : TA) : TE := fun σ H Q => t σ H fun xs H1 => xs.length ≤ sizeLine ∧ ∀ p, H1 p = none → Q (.ref p) (upd H1 p (.tup xs))
noncomputable def tLst (t : TA) : TE := fun σ H Q => t σ H fun xs H1 => xs.length ≤ sizeLine ∧ ∀ p, H1 p = none → Q (.ref p) (upd H1 p (.lst xs))
theorem pe_tup {x1} (h : PA X es t) : PE X (.Tuple es x1 pos) (tTup t) := by
  intro pins s σ H Q I hq
  refine wpAny_Tuple_spliced (thn (h pos pins s σ H _ I hq) fun us s1 ⟨xs, H1, I1, r, z, q⟩ => ⟨by rw [← r.length]; exact z, ?_⟩)
  have hf : H1 s1.heap.objs.size = none := I1.hok.fresh (Nat.le_refl _)
  refine ⟨.ref s1.heap.objs.size, upd H1 s1.heap.objs.size (.tup xs), I1.laid (t' := s1.toks) (fun b u e => Heap.get?_push_of_some _ e) (Nat.le_refl _) ?_, rfl, q _ hf⟩
  exact ⟨z, us, r, ⟨_, Heap.get?_push_size _ rfl, rfl, _, rfl⟩, _, Heap.get?_push_size _ rfl, rfl⟩
theorem pe_lst (h : PA X es t) : PE X (.List es pos) (tLst t) := by
  intro pins s σ H Q I hq
  refine wpAny_List_spliced (thn (h pos pins s σ H _ I hq) fun us s1 ⟨xs, H1, I1, r, z, q⟩ => ⟨by rw [← r.length]; exact z, ?_⟩)
  have hf : H1 s1.heap.objs.size = none := I1.hok.fresh (Nat.le_refl _)
  refine ⟨.ref s1.heap.objs.size, upd H1 s1.heap.objs.size (.lst xs), I1.laid (t' := s1.toks) (fun b u e => Heap.get?_push_of_some _ e) (Nat.le_refl _) ?_, rfl, q _ hf⟩
  exact ⟨z, us, 0, r, Heap.get?_push_size _ rfl⟩
end

/-! ### what a def promises -/
/-- a def's promise: the bound arguments in the parameters' order, the heap, the wanted end, the wanted exception -/
noncomputable abbrev Sp := List V → Hp → VK → XK → Prop
/-- how an exception lies behind a call (file 08 gives it): the callers' frames, abstract heap and state ahead of the call, the wish, the exception, the state -/
noncomputable abbrev CXT := List Env → Hp → Shared → XK → Value → Shared → Prop

/-- the state at a call -/
structure Env0 (P : Program) (w : World) (K : PySem.W.Frag) (mg : Str → Option Value) (base : Heap) (A : Around) (outer : List Env) (s : Shared) (H : Hp) : Prop where
  frames : A.frames = some outer
  mod : Mod K mg base
  bs : ∀ b o, base.get? b = some o → s.heap.get? b = some o ∧ H b = none
  bsz : base.objs.size ≤ s.heap.objs.size
  funs : s.heap.FunFrames base outer
  frf : ∀ b ∈ frs outer, H b = none
  hok : HOk P w H s.heap
  bare : AllBare s.gens
/-- a call's end -/
noncomputable def CE (outer : List Env) (P : Program) (w : World) (H : Hp) (s : Shared) (Q : VK) (u : Value) (s' : Shared) : Prop :=
  ∃ v H', s'.os = s.os ∧ AllBare s'.gens ∧ Un (frs outer) [] H H' s.heap s'.heap ∧ HOk P w H' s'.heap ∧ RelV v u ∧ Q v H'
noncomputable def CR (CX : CXT) (outer : List Env) (P : Program) (w : World) (H : Hp) (s : Shared) (Q : VK) (E : XK) (r : Result) (s' : Shared) : Prop :=
  match r with
  | .ok (.ret u) => CE outer P w H s Q u s'
  | .ok _ => False
  | .error e => CX outer H s E e s'
structure FnOk (P : Program) (w : World) (K : PySem.W.Frag) (mg : Str → Option Value) (base : Heap) (CX : CXT) (k : Nat) (f : Addr) (fd : FuncData) (ps : List Str) (sp : Sp) : Prop where
  len : ∀ vs H Q E, sp vs H Q E → vs.length = ps.length
  run : ∀ (A : Around) (outer : List Env) (s : Shared) (H : Hp) (args : Args) (us : List Value) (vs : List V) (Q : VK) (E : XK), Room k A → Env0 P w K mg base A outer s H → BindsTo s fd args (ps.zip us) → Vals vs us → sp vs H Q E →
    codeAny (model P w) A (.call (.ref f) args) (CR CX outer P w H s Q E) s
theorem FnOk.mono {P : Program} {w : World} {K : PySem.W.Frag} {mg : Str → Option Value} {base : Heap} {CX : CXT} {j k : Nat} {f : Addr} {fd : FuncData} {ps : List Str} {sp : Sp} (F : FnOk P w K mg base CX j f fd ps sp) (h : j ≤ k) :
    FnOk P w K mg base CX k f fd ps sp := ⟨F.len, fun A outer s H args us vs Q E hr => F.run A outer s H args us vs Q E (hr.mono h)⟩
/-- a weaker promise -/
theorem FnOk.imp {P : Program} {w : World} {K : PySem.W.Frag} {mg : Str → Option Value} {base : Heap} {CX : CXT} {k : Nat} {f : Addr} {fd : FuncData} {ps : List Str} {sp sp' : Sp} (F : FnOk P w K mg base CX k f fd ps sp)
    (h : ∀ vs H Q E, sp' vs H Q E → sp vs H Q E) : FnOk P w K mg base CX k f fd ps sp' :=
  ⟨fun vs H Q E q => F.len vs H Q E (h _ _ _ _ q), fun A outer s H args us vs Q E hr he hb hv hs => F.run A outer s H args us vs Q E hr he hb hv (h _ _ _ _ hs)⟩

theorem Env0.in1 {P : Program} {w : World} {K : PySem.W.Frag} {mg : Str → Option Value} {base : Heap} {A : Around} {outer : List Env} {s : Shared} {H : Hp} (e : Env0 P w K mg base A outer s H) :
    Env0 P w K mg base A.in1 outer s H := ⟨e.frames, e.mod, e.bs, e.bsz, e.funs, e.frf, e.hok, e.bare⟩

section
variable {X : Cx} {pins : List (Addr × Obj)} {σ : St} {H : Hp} {s s' : Shared}
/-- from a body: what a callee wants -/
theorem Inv.env0 (I : Inv X pins σ H s) : Env0 X.prog X.w X.K X.mg X.base X.A X.stack s H :=
  ⟨I.ok.frames, I.ok.mod, I.bs, Nat.le_trans I.ok.bsz I.sz, I.stack, I.stkFree, I.hok, I.bare⟩
/-- behind a call -/
theorem Inv.after {Q : VK} {u : Value} (I : Inv X pins σ H s) (h : CE X.stack X.prog X.w H s Q u s') : EP X pins σ Q u s' := by
  obtain ⟨v, H', os, bare, un, hok, r, q⟩ := h
  obtain ⟨hh, g, d, t, os'⟩ := s'
  obtain rfl : os' = s.os := os
  exact ⟨v, H', I.call (h' := hh) (g' := g) (d' := d) (t' := t) (ch := []) un hok bare (fun b z => absurd z (by simp)), r, q⟩
end

/-! ### calls -/
/-- f(..): the written arguments, then the defaults dvs; E: what is wanted of an exception -/
noncomputable def tCall (sp : Sp) (dvs : List V) (E : XK) (t : TA) : TE := fun σ H Q => t σ H fun vs H1 => sp (vs ++ dvs) H1 Q E

/-- how the parameters are bound: us the positional arguments, kw the keywords' values by name, ds the defaults that fill up -/
noncomputable def Binds (K : PySem.W.Frag) (fd : FuncData) (ps : List Str) (ds : List Value) : Prop :=
  ∀ (s : Shared) (us : List Value), K.In s.heap → (us ++ ds).length = ps.length → BindsTo s fd ⟨us, []⟩ (ps.zip (us ++ ds))
/-- every parameter is given -/
theorem Binds.all {K : PySem.W.Frag} {fd : FuncData} {ps : List Str} (h : ∀ us : List Value, us.length = ps.length → bindArgs fd ⟨us, []⟩ = pure (ps.zip us)) : Binds K fd ps [] := fun s us _ hl => by
  rw [List.append_nil] at hl ⊢
  exact .of_eq (h us hl)

/-- an exception of a callee reaches what this body wants of exceptions -/
noncomputable def Passes (CX : CXT) (X : Cx) (E : XK) : Prop := ∀ (pins : List (Addr × Obj)) (σ : St) (H : Hp) (s : Shared) (e : Value) (s' : Shared), Inv X pins σ H s → CX X.stack H s E e s' → X.xe e s'

section
variable {X : Cx} {CX : CXT} {k : Nat} {f C : Addr} {fd : FuncData} {ps : List Str} {sp : Sp} {dvs : List V} {ds : List Value} {E : XK} {x m : Str} {p pos apos : Pos} {e o : Expr} {es : List Expr} {ta : TE} {t : TA}

/-- the callee runs -/
theorem run_fn {pins : List (Addr × Obj)} {σ : St} {H : Hp} {s : Shared} {Q : VK} {us : List Value} {vs : List V} (F : FnOk X.prog X.w X.K X.mg X.base CX k f fd ps sp) (hr : Room k X.A) (hb : Binds X.K fd ps ds) (hd : Vals dvs ds) (hx : Passes CX X E)
    (I : Inv X pins σ H s) (r : Vals vs us) (h : sp (vs ++ dvs) H Q E) : wpAny (model X.prog X.w) X.A (call (.ref f) us) (EP X pins σ Q) X.xe s := by
  have r2 : Vals (vs ++ dvs) (us ++ ds) := r.append hd
  have hl : (us ++ ds).length = ps.length := by rw [← r2.length]; exact F.len _ _ _ _ h
  refine wpAny_call (codeAny_mono (F.run X.A X.stack s H ⟨us, []⟩ (us ++ ds) (vs ++ dvs) Q E hr I.env0 (hb s us I.kIn hl) r2 h) fun r s' hq => ?_)
  cases r with
  | error e => exact hx pins σ H s e s' I hq
  | ok fl =>
    cases fl with
    | ret u => exact I.after hq
    | next => exact False.elim hq
    | brk => exact False.elim hq
    | cont => exact False.elim hq

theorem pe_call (F : FnOk X.prog X.w X.K X.mg X.base CX k f fd ps sp) (hr : Room k X.A) (hg : Gl X x) (hm : X.mg x = some (.ref f)) (hk : PySem.W.keepIn X.K (.ref f) = true) (hb : Binds X.K fd ps ds) (hd : Vals dvs ds) (hx : Passes CX X E)
    (ha : PA X (e :: es) t) (hdb : (x == ("__debug__" : Str)) = false := by decide) (he : starEach (e :: es) X.env = (false, eval e X.env) :: starEach es X.env := by rfl) (hpl : (backTo pos (starEach es X.env)).any (·.1) = false := by rfl) :
    PE X (.Call (.Name x p) (e :: es) [] pos) (tCall sp dvs E t) := by
  intro pins s σ H Q I h
  refine wpAny_Call_Name_kw (ld_glob I hg hm ?_ hdb)
  refine PySem.W.callWith_K (h₀ := X.base) I.ok.mod.kin hk (thn (ha pos pins s σ H _ I h) fun us s1 ⟨vs, H1, I1, r, q⟩ => ⟨I1.kIn, ?_⟩) he hpl
  exact run_fn F hr hb hd hx I1 r q


/-- what a class must have to be made -/
structure Mk (K : PySem.W.Frag) (C f : Addr) : Prop where
  makes : PySem.W.makesIn K C = true
  init : PySem.W.findIn K (.ref C) "__init__" = some (some (.ref f))
  fn : PySem.W.isFn K (.ref f) = true
  kp : PySem.W.keepIn K (.ref C) = true

end

/-! ### keywords -/
section
variable {X : Cx} {CX : CXT} {k : Nat} {f C : Addr} {fd : FuncData} {ps ks : List Str} {sp : Sp} {E : XK} {x m : Str} {p pos apos kpos : Pos} {e o : Expr} {es : List Expr} {kws : List Keyword} {te ta : TE} {t tk : TA} {nm : Option Str}

/-- how a call with keywords binds: g puts the positional values us and the keywords' values ws (names ks) in the parameters' order, defaults among them -/
structure KBinds (K : PySem.W.Frag) (fd : FuncData) (ps ks : List Str) (g : List Value → List Value → List Value) (gV : List V → List V → List V) : Prop where
  to : ∀ (s : Shared) (us ws : List Value), K.In s.heap → (g us ws).length = ps.length → BindsTo s fd ⟨us, ks.zip ws⟩ (ps.zip (g us ws))
  rel : ∀ {vs : List V} {us : List Value} {zs : List V} {ws : List Value}, Vals vs us → Vals zs ws → Vals (gV vs zs) (g us ws)
variable {g : List Value → List Value → List Value} {gV : List V → List V → List V}
end

/-! ### a def's body keeps its promise -/
/-- names: the parameters first -/
structure FnScope (N P : List Str) (sc : Scope) : Prop where
  kind : sc.kind = .function
  co : sc.isCoroutine = false
  gen : sc.isGenerator = false
  nd : N.Nodup
  pre : N.take P.length = P
  par : ∀ x ∈ P, sc.names.lookup x = some .local ∨ sc.names.lookup x = some .cell
  nofree : ∀ y ∈ sc.names, y.2 ≠ .free

theorem bindL_out {kindOf : Str → Option NameKind} {x : Str} : ∀ {binds : List (Str × Value)} {m : Str → Option Value}, (∀ v, (x, v) ∉ binds) → bindL kindOf binds m x = m x
  | [], _, _ => rfl
  | (n, v) :: r, m, h => by
    unfold bindL
    rw [bindL_out fun w hw => h w (List.mem_cons_of_mem _ hw)]
    split
    · have : x ≠ n := by rintro rfl; exact h v List.mem_cons_self
      simp [this]
    · rfl
theorem bindC_out {kindOf : Str → Option NameKind} {x : Str} : ∀ {binds : List (Str × Value)} {m : Str → Option Value}, (∀ v, (x, v) ∉ binds) → bindC kindOf binds m x = m x
  | [], _, _ => rfl
  | (n, v) :: r, m, h => by
    unfold bindC
    rw [bindC_out fun w hw => h w (List.mem_cons_of_mem _ hw)]
    split
    · rfl
    · have : x ≠ n := by rintro rfl; exact h v List.mem_cons_self
      simp [this]
theorem bindL_get {kindOf : Str → Option NameKind} {x : Str} {v : Value} : ∀ {P : List Str} {vs : List Value} {i : Nat} {m : Str → Option Value}, P.Nodup → P[i]? = some x → vs[i]? = some v → kindOf x = some .local →
    bindL kindOf (P.zip vs) m x = some v
  | [], _, _, _, _, h, _, _ => by simp at h
  | _ :: _, [], _, _, _, _, h, _ => by simp at h
  | p :: P, w :: vs, 0, m, nd, h1, h2, hk => by
    simp at h1 h2; subst h1; subst h2
    show bindL kindOf ((p, w) :: P.zip vs) m p = _
    unfold bindL
    rw [bindL_out fun v hv => (List.nodup_cons.mp nd).1 (List.of_mem_zip hv).1, if_pos hk]
    simp
  | p :: P, w :: vs, i + 1, m, nd, h1, h2, hk => by
    show bindL kindOf ((p, w) :: P.zip vs) m x = _
    unfold bindL
    exact bindL_get (i := i) (List.nodup_cons.mp nd).2 (by simpa using h1) (by simpa using h2) hk
theorem bindC_get {kindOf : Str → Option NameKind} {x : Str} {v : Value} : ∀ {P : List Str} {vs : List Value} {i : Nat} {m : Str → Option Value}, P.Nodup → P[i]? = some x → vs[i]? = some v → kindOf x ≠ some .local →
    bindC kindOf (P.zip vs) m x = some v
  | [], _, _, _, _, h, _, _ => by simp at h
  | _ :: _, [], _, _, _, _, h, _ => by simp at h
  | p :: P, w :: vs, 0, m, nd, h1, h2, hk => by
    simp at h1 h2; subst h1; subst h2
    show bindC kindOf ((p, w) :: P.zip vs) m p = _
    unfold bindC
    rw [bindC_out fun v hv => (List.nodup_cons.mp nd).1 (List.of_mem_zip hv).1, if_neg hk]
    simp
  | p :: P, w :: vs, i + 1, m, nd, h1, h2, hk => by
    show bindC kindOf ((p, w) :: P.zip vs) m x = _
    unfold bindC
    exact bindC_get (i := i) (List.nodup_cons.mp nd).2 (by simpa using h1) (by simpa using h2) hk

/-- the names' values at the entry -/
noncomputable def start (N : List Str) (vs : List V) : St := vs.map some ++ List.replicate (N.length - vs.length) none

/-- the context of a def's body, at its entry; an exception leaves the frame, then lies as CX says -/
noncomputable def cxOf (CX : CXT) (P : Program) (w : World) (K : PySem.W.Frag) (mg : Str → Option Value) (base : Heap) (N : List Str) (qual : Str) (scope : Scope) (f : Addr) (cd : Value) (A : Around) (outer : List Env) (s : Shared) (H : Hp) (E : XK) : Cx where
  prog := P
  w := w
  K := K
  mg := mg
  base := base
  A := A.deeper (envOfC qual scope s.heap.objs.size f cd)
  N := N
  s₀ := s
  H₀ := H
  env := envOfC qual scope s.heap.objs.size f cd
  outer := outer
  stack := envOfC qual scope s.heap.objs.size f cd :: outer
  ex := []
  calm := true
  fn := fun _ => true
  pn := []
  xe := fun e s' => wpAny (model P w) (A.deeper (envOfC qual scope s.heap.objs.size f cd)) (leaving (envOfC qual scope s.heap.objs.size f cd) e) (fun _ s'' => CX outer H s E e s'') (fun e' s'' => CX outer H s E e' s'') s'

theorem cell_has {sc : Scope} {n : Nat} {x : Str} (h : sc.names.lookup x = some .cell) : ∃ c, (cellsFrom n sc.names []).lookup x = some c := by
  have q := PySem.W.cellsFrom_some sc.names n [] (.inl h)
  exact Option.isSome_iff_exists.mp q

theorem inv_start {CX : CXT} {P : Program} {w : World} {K : PySem.W.Frag} {mg : Str → Option Value} {base : Heap} {N ps : List Str} {qual : Str} {scope : Scope} {f : Addr} {cd : Value} {A : Around} {outer : List Env} {s s1 : Shared} {H : Hp} {E : XK} {us : List Value} {vs : List V}
    (S : FnScope N ps scope) (hd : A.handled = none) (e0 : Env0 P w K mg base A outer s H) (hl : vs.length = ps.length) (r : Vals vs us)
    (x : InCallC s s.heap.objs.size (bindL (envOfC qual scope s.heap.objs.size f cd).kindOf (ps.zip us) fun _ => none) (cellsFrom (s.heap.objs.size + 1) scope.names []) (bindC (envOfC qual scope s.heap.objs.size f cd).kindOf (ps.zip us) fun _ => none) s1) :
    Inv (cxOf CX P w K mg base N qual scope f cd A outer s H E) [] (start N vs) H s1 := by
  have hpl : ps.length ≤ N.length := by have := congrArg List.length S.pre; rw [List.length_take] at this; omega
  obtain ⟨h1, tk, rfl, hk⟩ := x.done
  have noA : ∀ b : Addr, b ∉ (cxOf CX P w K mg base N qual scope f cd A outer s H E).ex := fun b z => absurd (show b ∈ ([] : List Addr) from z) (by simp)
  refine ⟨⟨e0.mod, S.kind, rfl, rfl, Nat.le_refl _, fun y z c h1 h2 => ?_, fun y hy => ?_, fun y c _ h => ?_, fun _ => hd, Around.frames_deeper e0.frames, .inr ⟨rfl, rfl⟩, fun b z => absurd z (noA b), e0.bs, e0.bsz, fun b _ _ => noA b, fun b z => absurd z (noA b), e0.funs, e0.frf⟩,
    rfl, e0.bare, Un.kept hk, ⟨_, x.toInCall.ns, fun i y v h1 h2 h3 => ?_⟩, fun y c h => ⟨_, x.cell y c h⟩, e0.hok.fresh (Nat.le_refl _), fun y c h => ?_, fun p hp => absurd (show p ∈ ([] : List (Addr × Obj)) from hp) (by simp), e0.hok.kept hk, ?_⟩
  · exact name_of_addr x.apart (PySem.mem_of_lookup h1) (PySem.mem_of_lookup h2)
  · have hy : scope.names.lookup y = some .cell ∨ scope.names.lookup y = some .free := hy
    rcases hy with hy | hy
    · exact cell_has hy
    · exact absurd rfl (S.nofree _ (PySem.mem_of_lookup hy))
  · exact Nat.le_of_lt (x.above y c (PySem.mem_of_lookup h))
  · have hi : i < vs.length := by
      unfold start at h2
      by_cases hi : i < vs.length
      · exact hi
      · rw [List.getElem?_append_right (by simpa using hi)] at h2
        rw [List.getElem?_replicate] at h2
        split at h2 <;> cases h2
    have ha : vs[i]? = some v := by
      unfold start at h2
      rw [List.getElem?_append_left (by simpa using hi), List.getElem?_map] at h2
      cases e : vs[i]? with
      | none => rw [e] at h2; cases h2
      | some a => rw [e] at h2; cases h2; rfl
    obtain ⟨u, hu, rv⟩ := r.get ha
    have hp : ps[i]? = some y := by
      rw [← S.pre, List.getElem?_take_of_lt (by omega)]; exact h1
    have ndP : ps.Nodup := by rw [← S.pre]; exact S.nd.sublist (List.take_sublist _ _)
    refine ⟨u, rv, ?_⟩
    rcases S.par y (List.mem_of_getElem? hp) with k | k
    · exact .inl ⟨k, bindL_get ndP hp hu k⟩
    · obtain ⟨c, e⟩ := cell_has (n := s.heap.objs.size + 1) k
      refine .inr ⟨.inl k, c, e, ?_⟩
      have q := x.cell y c e
      rw [bindC_get ndP hp hu (by show scope.names.lookup y ≠ _; rw [k]; decide)] at q
      exact q
  · exact e0.hok.fresh (Nat.le_of_lt (x.above y c (PySem.mem_of_lookup h)))
  · unfold start
    show _ = N.length
    rw [List.length_append, List.length_map, List.length_replicate]
    omega

/-- THE RULE: a def (or a method) of the text, by its body. The body's reading t is chosen for each entry; it is run at the parameters' values -/
theorem fn_of {CX : CXT} {P : Program} {w : World} {K : PySem.W.Frag} {mg : Str → Option Value} {base : Heap} {k : Nat} {f : Addr} {name qual : Str} {params : Arguments} {body : List Stmt} {scope : Scope} {dV kV doc pm cdv ct oc : Value} {an od : Option Addr}
    {osl : Array (Option Value)} {N ps : List Str} {sp : Sp} (lk : K.lookup f = some ⟨oc, od, .func (PySem.W.fnOf name qual params body scope dV kV doc pm an cdv ct), osl⟩) (hcd : PySem.W.codeIn K cdv qual = true) (S : FnScope N ps scope)
    (len : ∀ vs H Q E, sp vs H Q E → vs.length = ps.length)
    (hbody : ∀ (A : Around) (outer : List Env) (s : Shared) (H : Hp) (vs : List V) (Q : VK) (E : XK), Room k (A.deeper (envOfC qual scope s.heap.objs.size f cdv)) → sp vs H Q E →
      ∃ t, PSs (cxOf CX P w K mg base N qual scope f cdv A outer s H E) body t ∧ t { nx := fun _ H' => Q .non H', rt := Q } (start N vs) H) :
    FnOk P w K mg base CX (k + 1) f (PySem.W.fnOf name qual params body scope dV kV doc pm an cdv ct) ps sp := by
  refine ⟨len, fun A outer s H args us vs Q E hr e0 hb r hsp => ?_⟩
  have hl := len _ _ _ _ hsp
  have KX : K.In s.heap := e0.mod.kin.keeps fun b o e => (e0.bs b o e).1
  have lim : s.heap.NoLimit := e0.mod.nolimit.keeps fun b o e => (e0.bs b o e).1
  have hkind : ∀ y ∈ ps.zip us, scope.names.lookup y.1 = some .local ∨ (scope.names.lookup y.1 = some .cell ∧ ((cellsFrom (s.heap.objs.size + 1) scope.names []).lookup y.1).isSome = true) := fun ⟨n, v⟩ hy => by
    rcases S.par n (List.of_mem_zip hy).1 with q | q
    · exact .inl q
    · exact .inr ⟨q, PySem.W.cellsFrom_some _ _ _ (.inl q)⟩
  refine codeAny_call_function hr.depth (KX _ _ lk) rfl S.co S.gen rfl (PySem.W.codeRec_of KX hcd) (hb _ _ _ _ ?_)
  refine wpAny_newFunctionEnv_cells S.kind hkind fun env he s1 x => ?_
  subst he
  refine ⟨lim.keeps x.toInCall.keep, codeAny_func ?_⟩
  obtain ⟨t, ht, hq⟩ := hbody A outer s H vs Q E (hr.deeper _) hsp
  have I : Inv (cxOf CX P w K mg base N qual scope f cdv A outer s H E) [] (start N vs) H s1 := inv_start S hr.hd e0 hl r x
  refine wpAny_mono (ht [] s1 (start N vs) H _ I hq) (fun fl s' hs => ?_) fun e s' hs => hs
  have fin : ∀ {σ' : St} {H' : Hp} {v : V} {u : Value}, Inv (cxOf CX P w K mg base N qual scope f cdv A outer s H E) [] σ' H' s' → RelV v u → Q v H' → CE outer P w H s Q u s' :=
    fun {σ' H' v u} J rv q => ⟨v, H', J.os, J.bare, J.base, J.hok, rv, q⟩
  cases fl with
  | ret u =>
    obtain ⟨v, σ', H', J, rv, q⟩ := hs
    exact fin J rv q
  | next =>
    obtain ⟨σ', H', J, q⟩ := hs
    exact fin (v := V.non) (u := Value.none) J rfl q
  | brk =>
    obtain ⟨_, _, _, q⟩ := hs
    exact False.elim q
  | cont =>
    obtain ⟨_, _, _, q⟩ := hs
    exact False.elim q
end L2

namespace L2
open PySem PySem.Spec PyProof.Rows
section
variable {X : Cx} {x : Str} {p pos : Pos} {e : Expr} {es : List Expr} {t : TA} {id T : String} {r : List V → Hp → VK → Prop}

noncomputable def tCB (r : List V → Hp → VK → Prop) (t : TA) : TE := fun σ H Q => t σ H fun vs H1 => r vs H1 Q
/-- f(e, ..), f a built-in function -/
theorem pe_callB (hc : CallR X (.builtin id) r) (hg : Gl X x) (hm : X.mg x = none) (hv : bootBuiltins x = some (.builtin id)) (ha : PA X (e :: es) t) (hn : x ≠ "__name__" := by decide) (hdb : (x == ("__debug__" : Str)) = false := by decide)
    (he : starEach (e :: es) X.env = (false, eval e X.env) :: starEach es X.env := by rfl) (hpl : (backTo pos (starEach es X.env)).any (·.1) = false := by rfl) : PE X (.Call (.Name x p) (e :: es) [] pos) (tCB r t) := by
  intro pins s σ H Q I h
  refine wpAny_Call_Name_kw (ld_blt I hg hm hv ?_ hn hdb)
  exact PyProof.Rows.callWith_builtin1 (thn (ha pos pins s σ H _ I h) fun us s1 ⟨vs, H1, I1, r1, q1⟩ => hc pins s1 σ H1 vs us Q I1 r1 q1) he hpl
/-- T(e, ..), T a built-in type -/
theorem pe_callTy (hc : CallR X (.type T) r) (hg : Gl X x) (hm : X.mg x = none) (hv : bootBuiltins x = some (.type T)) (ha : PA X (e :: es) t) (hn : x ≠ "__name__" := by decide) (hdb : (x == ("__debug__" : Str)) = false := by decide)
    (he : starEach (e :: es) X.env = (false, eval e X.env) :: starEach es X.env := by rfl) (hpl : (backTo pos (starEach es X.env)).any (·.1) = false := by rfl) : PE X (.Call (.Name x p) (e :: es) [] pos) (tCB r t) := by
  intro pins s σ H Q I h
  refine wpAny_Call_Name_kw (ld_blt I hg hm hv ?_ hn hdb)
  exact PyProof.Rows.callWith_type1 (thn (ha pos pins s σ H _ I h) fun us s1 ⟨vs, H1, I1, r1, q1⟩ => hc pins s1 σ H1 vs us Q I1 r1 q1) he hpl
end
end L2

namespace HT
open PySem PyProof.Rows

/-- t < u of tuples of ints -/
noncomputable def lexLt : List Int → List Int → Bool
  | [], [] => false
  | [], _ :: _ => true
  | _ :: _, [] => false
  | x :: xs, y :: ys => if x = y then lexLt xs ys else decide (x < y)
theorem lexLt_cons (x y : Int) (xs ys : List Int) : lexLt (x :: xs) (y :: ys) = if x = y then lexLt xs ys else decide (x < y) := rfl
theorem lexLt_nil_nil : lexLt [] [] = false := rfl
theorem lexLt_nil_cons (y : Int) (ys : List Int) : lexLt [] (y :: ys) = true := rfl
theorem lexLt_cons_nil (x : Int) (xs : List Int) : lexLt (x :: xs) [] = false := rfl

theorem eqAt_int (A : Around) (s : Shared) (a : Int) (t : Tok) (c : Int) (u : Tok) : ∃ e, SeqAt.EqAt A s (.int a t) (.int c u) e ∧ (e = true ↔ a = c) :=
  ⟨(a == c), SeqAt.EqAt.int_int a t c u, by simp⟩
theorem rcLt_int (A : Around) (s : Shared) (a : Int) (t : Tok) (c : Int) (u : Tok) (prog : Program) (w : World) (E : Value → Shared → Prop) (Q : Value → Shared → Prop) (h : Q (.bool (decide (a < c))) s) :
    wpAny (model prog w) A (richCompare .Lt (.int a t) (.int c u)) Q E s :=
  (PyProof.Rows.lt_int h : wpAny (model prog w) A (compareOp .Lt (.int a t) (.int c u)) Q E s)

section
open PySem.SeqAt
open PySem.AutoSeq1 (wpAny_loadPart')
open PySem.MeetsSeq PySem.MeetsSeq2 PySem.MeetsSeq3

theorem tuple_lt_ints (l b : Addr) (items items2 : Array Value) (n n2 : Nat) (dd dd2 : Option Addr) (sl sl2 : Array (Option Value)) (ns ms : List Int) (hi : IntsAre items.toList ns) (hj : IntsAre items2.toList ms) :
    Meets (Builtin.«tuple.__lt__» ⟨[.ref l, .ref b], []⟩)
      (fun _ R s => s.heap.get? l = some { cls := .type "tuple", dict := dd, data := .seq items n, slots := sl } ∧ s.heap.get? b = some { cls := .type "tuple", dict := dd2, data := .seq items2 n2, slots := sl2 } ∧
        R (.ok (.ret (.bool (lexLt ns ms)))) s) :=
  .of_wp fun prog w A R s h => by
    obtain ⟨hp, g, d, tk, os⟩ := s; obtain ⟨hl, hb, h⟩ := h
    have f2 := AutoSeq1.sub_tuple_tuple
    have z1 : items.size = ns.length := by rw [← hi.length]; simp
    have z2 : items2.size = ms.length := by rw [← hj.length]; simp
    wp_walk using wpAny_loadPart' hl, wpAny_loadPart' hb, wpAny_forIn_list _ (fun rest b s' => b.1 = none ∧ s' = ⟨hp, g, d, tk, os⟩ ∧ ∃ (vs ws : List Value) (ns' ms' : List Int), rest = vs.zip ws ∧
      IntsAre vs ns' ∧ IntsAre ws ms' ∧ ns'.length + items2.size = ms'.length + items.size ∧ R (.ok (.ret (.bool (lexLt ns' ms')))) ⟨hp, g, d, tk, os⟩) _
    case turn =>
      rintro ⟨y, x⟩ rest b s' ⟨hb', rfl, vs, ws, ns', ms', hz, hvi, hwi, hlen, hR⟩
      cases hvi with
      | nil => rw [List.zip_nil_left] at hz; cases hz
      | cons a t hvi' =>
        cases hwi with
        | nil => rw [List.zip_nil_right] at hz; cases hz
        | cons c u hwi' =>
          rw [List.zip_cons_cons] at hz
          injection hz with hyx hrest
          injection hyx with hy hx
          subst hy hx
          rw [lexLt_cons] at hR
          simp only [List.length_cons] at hlen
          obtain ⟨e, he, hiff⟩ := eqAt_int A.in1 ⟨hp, g, d, tk, os⟩ a t c u
          refine wpAny_bind (he prog w _ _ ?_)
          cases e with
          | true =>
            rw [if_pos (hiff.mp rfl)] at hR
            wp_walk
            exact ⟨rfl, rfl, _, _, _, _, hrest, hvi', hwi', by omega, hR⟩
          | false =>
            rw [if_neg (fun q => absurd (hiff.mpr q) Bool.false_ne_true)] at hR
            have hri := rcLt_int A.in1 ⟨hp, g, d, tk, os⟩ a t c u prog w
            wp_walk using hri
            exact ⟨_, rfl, by simpa using hR⟩
    case fin =>
      rintro ⟨b1, b2⟩ s' ⟨hb', rfl, vs, ws, ns', ms', hz, hvi, hwi, hlen, hR⟩
      simp only at hb'
      subst hb'
      have hv : lexLt ns' ms' = decide (items.size < items2.size) := by
        cases hvi with
        | nil =>
          cases hwi with
          | nil =>
            simp only [List.length_nil] at hlen
            rw [lexLt_nil_nil]
            exact (decide_eq_false (by omega)).symm
          | cons c u hw =>
            simp only [List.length_nil, List.length_cons] at hlen
            rw [lexLt_nil_cons]
            exact (decide_eq_true (by omega)).symm
        | cons a t hv =>
          cases hwi with
          | nil =>
            simp only [List.length_nil, List.length_cons] at hlen
            rw [lexLt_cons_nil]
            exact (decide_eq_false (by omega)).symm
          | cons c u hw =>
            rw [List.zip_cons_cons] at hz
            cases hz
      rw [hv] at hR
      wp_walk
      exact ⟨_, rfl, by simpa [Builtin.Tuple.tupleCompareSizes] using hR⟩
    case h =>
      exact ⟨rfl, rfl, items.toList, items2.toList, ns, ms, rfl, hi, hj, by omega, h⟩
end

section
variable {prog : Program} {w : World} {A : Around} {E : Value → Shared → Prop} {s : Shared}

theorem lt_tupInts {l b : Addr} {items items2 : Array Value} {ns ms : List Int} {Q : Value → Shared → Prop} (hl : IsTup s.heap l items) (hb : IsTup s.heap b items2) (hi : IntsAre items.toList ns) (hj : IntsAre items2.toList ms)
    (hu : A.units < cLine) (h : Q (.bool (lexLt ns ms)) s) : wpAny (model prog w) A (compareOp .Lt (.ref l) (.ref b)) Q E s := by
  obtain ⟨⟨cls, dd, data, sl⟩, ho, hc, n, hd⟩ := id hl
  obtain ⟨⟨cls2, dd2, data2, sl2⟩, ho2, hc2, n2, hd2⟩ := id hb
  simp only at hc hd hc2 hd2
  subst hc hd hc2 hd2
  exact richCompare_meets_room (op := .Lt) ⟨_, ho, rfl⟩ ⟨_, ho2, rfl⟩ PySem.F.slot_tuple_lt PySem.F.entry_tuple_lt (PySem.F.args_tuple_lt_2 _ _) (tuple_lt_ints l b items items2 n n2 dd dd2 sl sl2 ns ms hi hj)
    ⟨ho, ho2, show Value.bool (lexLt ns ms) ≠ Value.notImplemented ∧ Q (.bool (lexLt ns ms)) s from ⟨(fun x => nomatch x), h⟩⟩ hu


/-! ### t[a:b], not the whole -/
/-- a slice's bound as a place among n (d where it is left out) -/
noncomputable def sIx (n d : Nat) : Option Int → Nat
  | none => d
  | some v => if v < 0 then (v + (n : Int)).toNat else min v.toNat n
theorem sIx_none (n d : Nat) : sIx n d none = d := rfl
theorem sIx_nat (n d k : Nat) : sIx n d (some (k : Int)) = min k n := by
  show (if (k : Int) < 0 then ((k : Int) + (n : Int)).toNat else min (k : Int).toNat n) = min k n
  rw [if_neg (by omega), Int.toNat_natCast]

end
end HT

namespace L2
open PySem PySem.Spec PyProof.Rows

/-! ### the parts of a slice -/
noncomputable abbrev TO := St → Hp → (Option Int → Hp → Prop) → Prop
/-- a slice's part (left out, or an int) -/
noncomputable def PO (X : Cx) (e : Option Expr) (t : TO) : Prop :=
  ∀ (pins : List (Addr × Obj)) (s : Shared) (σ : St) (H : Hp) (Q : Option Int → Hp → Prop), Inv X pins σ H s → t σ H Q →
    wpAny (model X.prog X.w) X.A (evalPart e X.env) (fun u s' => ∃ o H', Inv X pins σ H' s' ∧ IsPart u o ∧ Q o H') X.xe s
noncomputable def tNoPart : TO := fun _ H Q => Q none H
noncomputable def tPart (t : TE) : TO := fun σ H Q => t σ H fun x H1 => ∃ i, x = .int i ∧ Q (some i) H1

theorem intsAre_of {ns : List Int} : ∀ {us : List Value}, Vals (ns.map V.int) us → IntsAre us ns := by
  induction ns with
  | nil => intro us r; rw [List.map_nil] at r; cases r; exact .nil
  | cons n ns ih =>
    intro us r
    rw [List.map_cons] at r
    cases r with
    | cons r1 r2 =>
      obtain ⟨t, e⟩ := r1
      subst e
      exact .cons n t (ih r2)

section
variable {X : Cx} {e : Expr} {te : TE} {lo hi : Option Expr} {tl th : TO} {pos p2 : Pos}

theorem po_none : PO X none tNoPart := by
  intro pins s σ H Q I h
  rw [evalPart_none]
  exact wpAny_pure ⟨none, H, I, .none, h⟩
theorem po_some (h : PE X e te) : PO X (some e) (tPart te) := by
  intro pins s σ H Q I hw
  rw [evalPart_some]
  refine thn (h pins s σ H _ I hw) fun u s1 ⟨x, H1, I1, r1, q1⟩ => ?_
  obtain ⟨i, rfl, q⟩ := q1
  obtain ⟨t, rfl⟩ := r1
  exact ⟨some i, H1, I1, .int i t, q⟩

/-- what a slice of a value is, by values: the slice object stands at sl -/
noncomputable def SlR (X : Cx) (r : V → Option Int → Option Int → Hp → VK → Prop) : Prop :=
  ∀ (pins : List (Addr × Obj)) (s : Shared) (σ : St) (H : Hp) (x : V) (v vl vu : Value) (lo hi : Option Int) (sl : Addr) (Q : VK), Inv X pins σ H s → RelV x v → s.heap.IsSliceOf sl vl vu .none → IsPart vl lo → IsPart vu hi → r x lo hi H Q →
    ∃ T id, typeLookup (.type T) "__getitem__" = pure (some (.builtin id)) ∧ s.TypeIs v T ∧ wpAny (model X.prog X.w) X.A (getItem v (.ref sl)) (EP X pins σ Q) X.xe s
theorem SlR.or {r r' : V → Option Int → Option Int → Hp → VK → Prop} (h : SlR X r) (h' : SlR X r') : SlR X (fun x lo hi H Q => r x lo hi H Q ∨ r' x lo hi H Q) := by
  intro pins s σ H x v vl vu lo hi sl Q I rx hs pl pu q
  rcases q with q | q
  · exact h pins s σ H x v vl vu lo hi sl Q I rx hs pl pu q
  · exact h' pins s σ H x v vl vu lo hi sl Q I rx hs pl pu q
noncomputable def tSl (r : V → Option Int → Option Int → Hp → VK → Prop) (te : TE) (tl th : TO) : TE := fun σ H Q => te σ H fun x H1 => tl σ H1 fun l H2 => th σ H2 fun u H3 => r x l u H3 Q
/-- a[lo:hi], any a -/
theorem pe_slice {r : V → Option Int → Option Int → Hp → VK → Prop} (hr : SlR X r) (he : PE X e te) (hl : PO X lo tl) (hu : PO X hi th) : PE X (.Subscript e (.Slice lo hi none p2) pos) (tSl r te tl th) := by
  intro pins s σ H Q I h
  refine Subscript_ (thn (he pins s σ H _ I h) fun v s1 ⟨x, H1, I1, r1, q1⟩ => ?_)
  refine wpAny_Slice (thn (hl pins s1 σ H1 _ I1 q1) fun vl s2 ⟨l, H2, I2, pl, q2⟩ => thn (hu pins s2 σ H2 _ I2 q2) fun vu s3 ⟨u, H3, I3, pu, q3⟩ => ?_)
  rw [evalPart_none]
  refine wpAny_pure ?_
  have I4 : Inv X pins σ H3 { s3 with heap := s3.heap.push { cls := .type "slice", data := .fields #[vl, vu, .none] } } := I3.kept (t' := s3.toks) fun b ob q => Heap.get?_push_of_some _ q
  obtain ⟨T, id, hT, ht, hg⟩ := hr pins { s3 with heap := s3.heap.push { cls := .type "slice", data := .fields #[vl, vu, .none] } } σ H3 x v vl vu l u s3.heap.objs.size Q I4 r1 (Heap.IsSliceOf.new ..) pl pu q3
  show wpAny (model X.prog X.w) X.A (subscriptTail e (.Slice lo hi none p2) v (.ref s3.heap.objs.size)) (EP X pins σ Q) X.xe { s3 with heap := s3.heap.push { cls := .type "slice", data := .fields #[vl, vu, .none] } }
  exact tail_any (ops := [.ref s3.heap.objs.size, v]) ht hT hg (by with_unfolding_all rfl)

/-- the items of xs[lo:hi] -/
noncomputable def cutV (xs : List V) (lo hi : Option Int) : List V := (xs.drop (HT.sIx xs.length 0 lo)).take (HT.sIx xs.length xs.length hi - HT.sIx xs.length 0 lo)
theorem cutV_length (xs : List V) (lo hi : Option Int) : (cutV xs lo hi).length ≤ xs.length := by
  unfold cutV
  rw [List.length_take, List.length_drop]
  omega

/-! ### t < u, t + u -/
noncomputable def rLtT (K : PySem.W.Frag) : R2 := fun x y H Q => ∃ a b ns ms, x = .ref a ∧ y = .ref b ∧ SqT K H a (ns.map V.int) ∧ SqT K H b (ms.map V.int) ∧ Q (.bl (HT.lexLt ns ms)) H
theorem op_ltT (hu : X.A.units < cLine) : OpR X (compareOp .Lt) (rLtT X.K) := by
  intro pins s σ H x y v u Q I rx ry h
  obtain ⟨a, b, ns, ms, rfl, rfl, ha, hb, q⟩ := h
  cases rx
  cases ry
  obtain ⟨its, r1, p1, _⟩ := I.tuple ha
  obtain ⟨its2, r2, p2, _⟩ := I.tuple hb
  have i1 : IntsAre its.toArray.toList ns := intsAre_of r1
  have i2 : IntsAre its2.toArray.toList ms := intsAre_of r2
  exact HT.lt_tupInts p1 p2 i1 i2 hu ⟨.bl (HT.lexLt ns ms), H, I, rfl, q⟩
end
end L2

namespace L2
open PySem PySem.Spec PyProof.Rows

/-! ### places -/
/-- the place that an index of any sign means -/
noncomputable def ixN (n : Nat) (i : Int) : Option Nat := if 0 ≤ i then (if i < n then some i.toNat else none) else if -(n : Int) ≤ i then some (i + n).toNat else none
noncomputable def atI {α : Type} (xs : List α) (i : Int) : Option α := (ixN xs.length i).bind fun j => xs[j]?
theorem ixN_seq {n : Nat} {i : Int} {j : Nat} (h : ixN n i = some j) : seqIndex? i n = some j ∧ j < n ∧ -(n : Int) ≤ i ∧ i < n := by
  unfold ixN at h
  by_cases h0 : 0 ≤ i
  · rw [if_pos h0] at h
    by_cases h1 : i < n
    · rw [if_pos h1] at h
      have e : i.toNat = j := Option.some.inj h
      exact ⟨by rw [seqIndex_of h0 h1, e], by omega, by omega, h1⟩
    · rw [if_neg h1] at h; cases h
  · rw [if_neg h0] at h
    by_cases h1 : -(n : Int) ≤ i
    · rw [if_pos h1] at h
      have e : (i + n).toNat = j := Option.some.inj h
      exact ⟨by rw [seqIndex_neg (by omega) h1, e], by omega, h1, by omega⟩
    · rw [if_neg h1] at h; cases h
theorem atI_get {α : Type} {xs : List α} {i : Int} {v : α} (h : atI xs i = some v) : ∃ j, seqIndex? i xs.length = some j ∧ xs[j]? = some v ∧ j < xs.length ∧ -(xs.length : Int) ≤ i ∧ i < xs.length := by
  unfold atI at h
  cases e : ixN xs.length i with
  | none => rw [e] at h; cases h
  | some j =>
    rw [e] at h
    obtain ⟨h1, h2, h3, h4⟩ := ixN_seq e
    exact ⟨j, h1, h, h2, h3, h4⟩
theorem atI_nat {α : Type} {xs : List α} {j : Nat} {v : α} (h : xs[j]? = some v) : atI xs (j : Int) = some v := by
  have hj : j < xs.length := (List.getElem?_eq_some_iff.mp h).1
  have e : ixN xs.length (j : Int) = some j := by
    unfold ixN
    rw [if_pos (by omega), if_pos (by omega)]; simp
  unfold atI; rw [e]; exact h

/-! ### what may be subscripted -/
/-- what stands as an index of a plain subscript -/
noncomputable def PlainIx (b : Expr) : Prop := ∀ o i, subscripted b false o i = operate [o, i] (getItem o i)
/-- a subscript by values -/
noncomputable def IxR (X : Cx) (r : R2) : Prop :=
  ∀ (value slice : Expr) (pins : List (Addr × Obj)) (s : Shared) (σ : St) (H : Hp) (x y : V) (v u : Value) (Q : VK), Inv X pins σ H s → RelV x v → RelV y u → r x y H Q →
    subscripted slice false v u = operate [v, u] (getItem v u) → wpAny (model X.prog X.w) X.A (subscriptTail value slice v u) (EP X pins σ Q) X.xe s
/-- a call of a builtin's method by values: the receiver, the arguments -/
noncomputable def MtR (X : Cx) (id : String) (r : V → List V → Hp → VK → Prop) : Prop :=
  ∀ (pins : List (Addr × Obj)) (s : Shared) (σ : St) (H : Hp) (x : V) (xs : List V) (v : Value) (us : List Value) (Q : VK), Inv X pins σ H s → RelV x v → Vals xs us → r x xs H Q →
    wpAny (model X.prog X.w) X.A (call (.builtin id) (v :: us)) (EP X pins σ Q) X.xe s
section
variable {X : Cx} {a b : Expr} {ta tb : TE} {pos : Pos}
theorem IxR.or {r r' : R2} (h : IxR X r) (h' : IxR X r') : IxR X (fun x y H Q => r x y H Q ∨ r' x y H Q) := by
  intro value slice pins s σ H x y v u Q I rx ry q hs
  rcases q with q | q
  · exact h value slice pins s σ H x y v u Q I rx ry q hs
  · exact h' value slice pins s σ H x y v u Q I rx ry q hs
theorem MtR.or {id : String} {r r' : V → List V → Hp → VK → Prop} (h : MtR X id r) (h' : MtR X id r') : MtR X id (fun x xs H Q => r x xs H Q ∨ r' x xs H Q) := by
  intro pins s σ H x xs v us Q I rx rs q
  rcases q with q | q
  · exact h pins s σ H x xs v us Q I rx rs q
  · exact h' pins s σ H x xs v us Q I rx rs q
/-- a[b] -/
theorem pe_ix {r : R2} (hr : IxR X r) (ha : PE X a ta) (hb : PE X b tb) (hs : PlainIx b) : PE X (.Subscript a b pos) (tOp r ta tb) := by
  intro pins s σ H Q I h
  exact Subscript_ (binT ha hb I h fun v u s2 x y H2 I2 rx ry q => hr a b pins s2 σ H2 x y v u Q I2 rx ry q (hs _ _))

noncomputable def rIxL (K : PySem.W.Frag) : R2 := fun x y H Q => ∃ p xs i v, x = .ref p ∧ y = .int i ∧ SqL K H p xs ∧ atI xs i = some v ∧ Q v H
noncomputable def rIxT (K : PySem.W.Frag) : R2 := fun x y H Q => ∃ p xs i v, x = .ref p ∧ y = .int i ∧ SqT K H p xs ∧ atI xs i = some v ∧ Q v H
theorem ix_list : IxR X (rIxL X.K) := by
  intro value slice pins s σ H x y v u Q I rx ry h hs
  obtain ⟨p, xs, i, z, rfl, rfl, hq, he, q⟩ := h
  cases rx
  obtain ⟨t, rfl⟩ := ry
  obtain ⟨its, r, pl, hz⟩ := I.list hq
  obtain ⟨j, h1, h2, h3, h4, h5⟩ := atI_get he
  obtain ⟨w, ew, rw'⟩ := r.get h2
  have hl := r.length
  have hn := line63
  have fin : EP X pins σ Q w s := ⟨z, H, I, rw', q⟩
  by_cases h0 : 0 ≤ i
  · have hj : i.toNat = j := by
      rw [seqIndex_of h0 h5] at h1
      exact Option.some.inj h1
    exact item_listR pl.isList h0 (by omega) (by rw [hj]; simpa using ew) fin hs
  · have hj : (i + (its.toArray.size : Int)).toNat = j := by
      rw [seqIndex_neg (by omega) h4] at h1
      rw [List.size_toArray, ← hl]
      exact Option.some.inj h1
    exact subscriptTail_builtinR (x := w) pl.isList.typeIs slot_list_getitem.lookup
      (wpAny_getItem_list_neg (Q := fun r s' => r = w ∧ EP X pins σ Q r s') pl.isList (by omega) (by rw [List.size_toArray] <;> omega) (by omega) (by rw [hj]; simpa using ew) ⟨rfl, fin⟩) hs
theorem ix_tup : IxR X (rIxT X.K) := by
  intro value slice pins s σ H x y v u Q I rx ry h hs
  obtain ⟨p, xs, i, z, rfl, rfl, hq, he, q⟩ := h
  cases rx
  obtain ⟨t, rfl⟩ := ry
  obtain ⟨its, r, pl, hz⟩ := I.tuple hq
  obtain ⟨j, h1, h2, h3, h4, h5⟩ := atI_get he
  obtain ⟨w, ew, rw'⟩ := r.get h2
  have hl := r.length
  have hn := line63
  have fin : EP X pins σ Q w s := ⟨z, H, I, rw', q⟩
  exact subscriptTail_builtinR (x := w) pl.typeIs slot_tuple_getitem.lookup
    (getItem_tuple (j := j) (Q := fun r s' => r = w ∧ EP X pins σ Q r s') pl (by omega) (by omega) (by rw [List.size_toArray, ← hl]; exact h1) (by simpa using ew) ⟨rfl, fin⟩) hs

/-! ### xs[i] = v, any sign -/
/-- the list's object behind a store -/
theorem mapSeq_set (its : List Value) (n j : Nat) (u : Value) : Obj.mapSeq (·.setIfInBounds j u) { cls := .type "list", data := .seq its.toArray n } = { cls := .type "list", data := .seq (its.set j u).toArray n } := by
  simp [Obj.mapSeq]
theorem Inv.lst {pins : List (Addr × Obj)} {σ : St} {H : Hp} {s : Shared} {p : Addr} {xs : List V} (I : Inv X pins σ H s) (h : H p = some (.lst xs)) :
    ∃ (its : List Value) (n : Nat), Vals xs its ∧ s.heap.get? p = some { cls := .type "list", data := .seq its.toArray n } ∧ xs.length ≤ sizeLine := by
  obtain ⟨z, its, n, r, e⟩ := I.hok p _ h
  exact ⟨its, n, r, e, z⟩
/-- the list at p is written by an update of its object -/
theorem Inv.lstUpd {pins : List (Addr × Obj)} {σ : St} {H : Hp} {s : Shared} {p : Addr} {xs ys : List V} {its its' : List Value} {n n' : Nat} {f : Obj → Obj} (I : Inv X pins σ H s) (h : H p = some (.lst xs))
    (ho : s.heap.get? p = some { cls := .type "list", data := .seq its.toArray n }) (hf : f { cls := .type "list", data := .seq its.toArray n } = { cls := .type "list", data := .seq its'.toArray n' }) (r : Vals ys its') (hz : ys.length ≤ sizeLine) (t : Nat) :
    Inv X pins σ (upd H p (.lst ys)) { s with heap := s.heap.update p f, toks := t } := by
  have e : (s.heap.update p f).get? p = some { cls := .type "list", data := .seq its'.toArray n' } := by
    rw [Heap.get?_update_self f ho (by rw [hf] <;> rfl), hf]
  refine I.write (x := p) (e := p) (by rw [h]; trivial) (.inl rfl) (fun b u hb q => (Heap.get?_update_other _ _ (Ne.symm hb)).trans q) ⟨_, e⟩ ?_
  exact ⟨hz, its', n', r, e⟩
noncomputable def rSetL : V → V → V → Hp → (Hp → Prop) → Prop := fun o i v H Q => ∃ p xs k j, o = .ref p ∧ i = .int k ∧ H p = some (.lst xs) ∧ ixN xs.length k = some j ∧ Q (upd H p (.lst (xs.set j v)))
theorem set_list : PSet X rSetL := by
  intro pins s σ H o i v ov iv u Q I ro ri rv h
  obtain ⟨p, xs, k, j, rfl, rfl, hp, hj, q⟩ := h
  cases ro
  obtain ⟨t, rfl⟩ := ri
  obtain ⟨its, n, r, ho, hz⟩ := I.lst hp
  obtain ⟨h1, h2, h3, h4⟩ := ixN_seq hj
  have hl := r.length
  have hn := line63
  have I' : Inv X pins σ (upd H p (.lst (xs.set j v))) { s with heap := s.heap.update p (Obj.mapSeq (·.setIfInBounds j u)) } :=
    I.lstUpd hp ho (mapSeq_set its n j u) (r.set rv j) (by rw [List.length_set]; exact hz) s.toks
  by_cases h0 : 0 ≤ k
  · have hk : k.toNat = j := by
      rw [seqIndex_of h0 h4] at h1
      exact Option.some.inj h1
    exact PySem.W.ki_setAt ho h0 (by omega) (by rw [List.size_toArray, ← hl]; exact h4) (by rw [hk]; exact ⟨_, I', q⟩)
  · have hk : (k + (its.toArray.size : Int)).toNat = j := by
      rw [seqIndex_neg (by omega) h3] at h1
      rw [List.size_toArray, ← hl]
      exact Option.some.inj h1
    exact PySem.W.ki_setBack ho (by omega) (by rw [List.size_toArray, ← hl]; exact h3) (by omega) (by rw [hk]; exact ⟨_, I', q⟩)

/-! ### slices -/
theorem slice_bounds (lo hi : Option Int) (n : Nat) : (sliceBounds lo hi none n).1 = ((HT.sIx n 0 lo : Nat) : Int) ∧ (sliceBounds lo hi none n).2.1 = ((HT.sIx n n hi : Nat) : Int) ∧ (sliceBounds lo hi none n).2.2 = 1 := by
  refine ⟨?_, ?_, rfl⟩
  · cases lo with
    | none => simp [sliceBounds, HT.sIx]
    | some i =>
      simp only [sliceBounds, HT.sIx, Option.getD_none, show (1 : Int) > 0 by decide, if_true]
      by_cases h : i < 0
      · simp only [h, if_true] <;> omega
      · simp only [h, if_false] <;> omega
  · cases hi with
    | none => simp [sliceBounds, HT.sIx]
    | some i =>
      simp only [sliceBounds, HT.sIx, Option.getD_none, show (1 : Int) > 0 by decide, if_true]
      by_cases h : i < 0
      · simp only [h, if_true] <;> omega
      · simp only [h, if_false] <;> omega
theorem slicePick_cut (its : List Value) (lo hi : Option Int) : slicePick its.toArray lo hi none = ((its.drop (HT.sIx its.length 0 lo)).take (HT.sIx its.length its.length hi - HT.sIx its.length 0 lo)).toArray := by
  obtain ⟨h1, h2, h3⟩ := slice_bounds lo hi its.toArray.size
  unfold slicePick
  rw [h1, h2, h3]
  simp only [sliceRange_one, pick_run, List.size_toArray] <;> rfl
/-- xs[lo:hi] of a list: a new list -/
noncomputable def rSlL (K : PySem.W.Frag) : V → Option Int → Option Int → Hp → VK → Prop := fun x lo hi H Q => ∃ a xs, x = .ref a ∧ SqL K H a xs ∧ ∀ p, H p = none → Q (.ref p) (upd H p (.lst (cutV xs lo hi)))
theorem sl_list : SlR X (rSlL X.K) := by
  intro pins s σ H x v vl vu lo hi sl Q I rx hs pl pu h
  obtain ⟨a, xs, rfl, hx, q⟩ := h
  cases rx
  obtain ⟨its, r, ht, hz⟩ := I.list hx
  have hlen := r.length
  refine ⟨"list", _, slot_list_getitem.lookup, ht.isList.typeIs, ?_⟩
  refine wpAny_getItem_list_slice ht.isList hs pl pu .none (by simp) ?_ (by rw [List.size_toArray] <;> omega)
  rw [slicePick_cut, ← hlen]
  refine ⟨.ref s.heap.objs.size, _, I.laid (t' := s.toks) (o := .lst (cutV xs lo hi)) (fun b ob q => Heap.get?_push_of_some _ q) (Nat.le_refl _) ?_, rfl, q _ (I.hok.fresh (Nat.le_refl _))⟩
  exact ⟨Nat.le_trans (cutV_length xs lo hi) hz, _, 0, (r.drop (HT.sIx xs.length 0 lo)).take (HT.sIx xs.length xs.length hi - HT.sIx xs.length 0 lo), Heap.get?_push_size _ rfl⟩

/-! ### in, not in: flat items -/

/-! ### len, list(x), tuple(x) of any list or tuple that is read -/
theorem call_len_seq : CallR X (.builtin "len") (fun xs H Q => ∃ p ys, xs = [.ref p] ∧ (SqL X.K H p ys ∨ SqT X.K H p ys) ∧ Q (.int ys.length) H) := by
  intro pins s σ H xs us Q I r h
  obtain ⟨p, ys, rfl, hq, q⟩ := h
  obtain ⟨u, rfl, rx⟩ := vals1 r
  cases rx
  have hn := line63
  rcases hq with hq | hq
  · obtain ⟨its, r', pl, hz⟩ := I.list hq
    have hlen := r'.length
    exact Calls.call_len_list pl.isList (by simp only [List.size_toArray] <;> omega) ⟨.int ys.length, H, I.tok _, ⟨s.toks + 1, by rw [List.size_toArray, hlen]⟩, q⟩
  · obtain ⟨its, r', pl, hz⟩ := I.tuple hq
    have hlen := r'.length
    exact len_tuple pl (by simp only [List.size_toArray] <;> omega) ⟨.int ys.length, H, I.tok _, ⟨s.toks + 1, by rw [List.size_toArray, hlen]⟩, q⟩
theorem CallR.or {f : Value} {r r' : List V → Hp → VK → Prop} (h : CallR X f r) (h' : CallR X f r') : CallR X f (fun xs H Q => r xs H Q ∨ r' xs H Q) := by
  intro pins s σ H xs us Q I rs q
  rcases q with q | q
  · exact h pins s σ H xs us Q I rs q
  · exact h' pins s σ H xs us Q I rs q
theorem call_list_of : CallR X (.type "list") (fun xs H Q => ∃ p ys, xs = [.ref p] ∧ (SqL X.K H p ys ∨ SqT X.K H p ys) ∧ ∀ l, H l = none → Q (.ref l) (upd H l (.lst ys))) := by
  intro pins s σ H xs us Q I r h
  obtain ⟨p, ys, rfl, hq, q⟩ := h
  obtain ⟨u, rfl, rx⟩ := vals1 r
  cases rx
  have fin : ∀ (its : List Value), Vals ys its → ys.length ≤ sizeLine → ∀ (h' : Heap) (c' : Nat), (∀ b o', s.heap.get? b = some o' → h'.get? b = some o') →
      h'.get? s.heap.objs.size = some { cls := .type "list", dict := none, data := .seq its.toArray c', slots := #[] } → EP X pins σ Q (.ref s.heap.objs.size) { s with heap := h' } := fun its r' hz h' c' kp e =>
    ⟨.ref s.heap.objs.size, _, I.laid (t' := s.toks) kp (Nat.le_refl _) (show ObjOk X.prog X.w _ h' _ (.lst ys) from ⟨hz, its, c', r', e⟩), rfl, q _ (I.hok.fresh (Nat.le_refl _))⟩
  rcases hq with hq | hq
  · obtain ⟨its, r', pl, hz⟩ := I.list hq
    have hlen := r'.length
    obtain ⟨o, ho, hc, n, hd⟩ := pl.isList
    exact call_list_seq p (.inl rfl) ho hc hd (fun h' c' kp e => fin its r' hz h' c' kp e) (by simp only [List.size_toArray] <;> omega)
  · obtain ⟨its, r', pl, hz⟩ := I.tuple hq
    have hlen := r'.length
    obtain ⟨o, ho, hc, n, hd⟩ := pl
    exact call_list_seq p (.inr rfl) ho hc hd (fun h' c' kp e => fin its r' hz h' c' kp e) (by simp only [List.size_toArray] <;> omega)
theorem call_tuple_of : CallR X (.type "tuple") (fun xs H Q => ∃ p ys, xs = [.ref p] ∧ ((SqL X.K H p ys ∧ ∀ l, H l = none → Q (.ref l) (upd H l (.tup ys))) ∨ (SqT X.K H p ys ∧ Q (.ref p) H))) := by
  intro pins s σ H xs us Q I r h
  obtain ⟨p, ys, rfl, h⟩ := h
  obtain ⟨u, rfl, rx⟩ := vals1 r
  cases rx
  rcases h with ⟨hq, q⟩ | ⟨hq, q⟩
  · obtain ⟨its, r', pl, hz⟩ := I.list hq
    have hlen := r'.length
    refine call_tuple_list pl.isList (fun h' kp => ?_) (by simp only [List.size_toArray] <;> omega)
    have I1 : Inv X pins σ H { s with heap := h' } := I.kept (t' := s.toks) kp
    have I2 : Inv X pins σ (upd H h'.objs.size (.tup ys)) { s with heap := h'.push { cls := .type "tuple", data := .seq its.toArray } } :=
      I1.laid (t' := s.toks) (fun b o e => Heap.get?_push_of_some _ e) (Nat.le_refl _) (show ObjOk X.prog X.w _ _ _ (.tup ys) from ⟨hz, its, r', IsTupN.new _ _⟩)
    exact ⟨.ref h'.objs.size, _, I2, rfl, q _ (I1.hok.fresh (Nat.le_refl _))⟩
  · obtain ⟨its, r', pl, hz⟩ := I.tuple hq
    exact call_tuple_same pl ⟨.ref p, H, I, rfl, q⟩

/-! ### the call of a builtin's method: o.m(..) -/
/-- the value is of that builtin type -/
noncomputable def tyV (K : PySem.W.Frag) (T : String) (x : V) (H : Hp) : Prop := match x with
  | .str _ => T = "str"
  | .int _ => T = "int"
  | .ref p => (T = "list" ∧ ∃ xs, SqL K H p xs) ∨ (T = "tuple" ∧ ∃ o, K.lookup p = some o ∧ o.cls = .type "tuple" ∧ o.dict = none) ∨
      (T = "dict" ∧ ((∃ kvs, H p = some (.dK kvs)) ∨ ∃ kvs, H p = some (.dT kvs))) ∨ (T = "set" ∧ ∃ S n, H p = some (.set S n))
  | _ => False
theorem tyV_is {pins : List (Addr × Obj)} {σ : St} {H : Hp} {s : Shared} {T : String} {x : V} {v : Value} (I : Inv X pins σ H s) (r : RelV x v) (ty : tyV X.K T x H) :
    s.TypeIs v T ∧ ∀ a, v = .ref a → ∃ ob, s.heap.get? a = some ob ∧ ob.dict = none := by
  cases x with
  | str z =>
    obtain ⟨t, rfl⟩ := r
    cases (show T = "str" from ty)
    exact ⟨typeIs_str s z t, fun _ e => nomatch e⟩
  | int i =>
    obtain ⟨t, rfl⟩ := r
    cases (show T = "int" from ty)
    exact ⟨typeIs_int s i t, fun _ e => nomatch e⟩
  | ref p =>
    cases r
    rcases ty with ⟨rfl, xs, hq⟩ | ⟨rfl, o, hk, hc, hd⟩ | ⟨rfl, hk⟩ | ⟨rfl, S, n, hk⟩
    · obtain ⟨its, _, pl, _⟩ := I.list hq
      refine ⟨pl.isList.typeIs, fun a e => ?_⟩
      cases e
      obtain ⟨o, n, e, c, hd, _⟩ := pl
      exact ⟨o, e, hd⟩
    · refine ⟨⟨o, I.kIn p o hk, hc⟩, fun a e => ?_⟩
      cases e
      exact ⟨o, I.kIn _ o hk, hd⟩
    · have z : ∃ o, s.heap.get? p = some o ∧ o.ExactDict := by
        rcases hk with ⟨kvs, hk⟩ | ⟨kvs, hk⟩
        · obtain ⟨_, _, _, _, o, _, _, e, ex, _⟩ := I.hok p _ hk
          exact ⟨o, e, ex⟩
        · obtain ⟨_, _, _, _, o, _, _, e, ex, _⟩ := I.hok p _ hk
          exact ⟨o, e, ex⟩
      obtain ⟨o, e, ex⟩ := z
      refine ⟨⟨o, e, ex.1⟩, fun a e2 => ?_⟩
      cases e2
      exact ⟨o, e, ex.2.1⟩
    · obtain ⟨o, _, _, _, e, ex, _⟩ := I.hok p _ hk
      refine ⟨⟨o, e, ex.1⟩, fun a e2 => ?_⟩
      cases e2
      exact ⟨o, e, ex.2.1⟩
  | _ => exact False.elim ty
noncomputable def tBM (K : PySem.W.Frag) (T : String) (r : V → List V → Hp → VK → Prop) (to : TE) (t : TA) : TE := fun σ H Q => to σ H fun x H1 => tyV K T x H1 ∧ t σ H1 fun xs H2 => r x xs H2 Q
variable {o e : Expr} {es : List Expr} {to : TE} {t : TA} {name : Str} {apos cpos : Pos} {T id : String} {r : V → List V → Hp → VK → Prop}
theorem pe_bm (pa : PlainAttrs T) (slot : Slot T name id) (hty : typeOf (.builtin id) = pure (.type "method_descriptor")) (hm : MtR X id r) (ho : PE X o to) (ha : PA X (e :: es) t)
    (hbase : attributeBase o name X.env (eval o X.env) = eval o X.env := by rfl)
    (hfew : ((backTo cpos (starEach (e :: es) X.env)).all (fun x => !x.1) && (backToKw cpos (keywordEach [] X.env)).all (fun x => x.1.isSome)
      && decide ((e :: es).length + ([] : List Keyword).length + (if ([] : List Keyword).isEmpty then 0 else 1) < 30)) = true := by rfl)
    (hline : (apos.endLine == cpos.line) = true := by rfl) (hs : starEach (e :: es) X.env = (false, eval e X.env) :: starEach es X.env := by rfl) (hplain : (backTo cpos (starEach es X.env)).any (·.1) = false := by rfl) :
    PE X (.Call (.Attribute o name apos) (e :: es) [] cpos) (tBM X.K T r to t) := by
  intro pins s σ H Q I h
  refine wpAny_Call_method_late hbase hfew hline rfl (thn (ho pins s σ H _ I h) fun v s1 ⟨x, H1, I1, r1, ty, q1⟩ => ?_)
  obtain ⟨h1, h2⟩ := tyV_is I1 r1 ty
  refine ⟨T, id, pa, slot, hty, h1, h2, ?_⟩
  have hA := ha cpos pins s1 σ H1 _ I1 q1
  rw [hs] at hA ⊢
  refine Calls.callWith_builtin (by show (false || (backTo cpos (starEach es X.env)).any (·.1)) = false; rw [hplain] <;> rfl) (Calls.evalArgs_plain ?_)
  exact thn hA fun us s2 ⟨vs, H2, I2, r2, q2⟩ => hm pins s2 σ H2 x vs v us Q I2 r1 r2 q2
/- xs.append(e), list.index on a module's tuple .. are MtR facts of 06m -/
end
end L2

namespace L2
open PySem PySem.Spec PyProof.Rows

noncomputable def MtM (X : Cx) (id : String) (r : V → List V → Hp → VK → Prop) : Prop :=
  ∀ (pins : List (Addr × Obj)) (s : Shared) (σ : St) (H : Hp) (x : V) (xs : List V) (v : Value) (us : List Value) (Q : VK), Inv X pins σ H s → RelV x v → Vals xs us → r x xs H Q →
    wpAny (model X.prog X.w) X.A (call (.builtin id) (v :: us)) (EP X pins σ Q) X.xe s

/-! ### lists of values -/
theorem Vals.one : ∀ {x : V} {us : List Value}, Vals [x] us → ∃ u, us = [u] ∧ RelV x u
  | _, _, .cons r .nil => ⟨_, rfl, r⟩
theorem Vals.two {x y : V} {us : List Value} (h : Vals [x, y] us) : ∃ u v, us = [u, v] ∧ RelV x u ∧ RelV y v := by
  cases h with
  | cons r t =>
  cases t with
  | cons q t =>
  cases t
  exact ⟨_, _, rfl, r, q⟩
theorem Vals.zero : ∀ {us : List Value}, Vals [] us → us = []
  | _, .nil => rfl
theorem Vals.reverse {xs : List V} {us : List Value} (h : Vals xs us) : Vals xs.reverse us.reverse := by
  induction h with
  | nil => exact .nil
  | cons r t ih => rw [List.reverse_cons, List.reverse_cons]; exact Vals.append ih (.cons r .nil)
theorem Vals.rep {xs : List V} {us : List Value} (h : Vals xs us) : ∀ k : Nat, Vals (List.replicate k xs).flatten (List.replicate k us).flatten
  | 0 => .nil
  | k + 1 => by
    rw [List.replicate_succ, List.replicate_succ, List.flatten_cons, List.flatten_cons]
    exact Vals.append h (Vals.rep h k)
theorem foldl_rep (its : List Value) : ∀ (k : Nat) (acc : List Value),
    List.foldl (fun x1 x2 => x1 ++ x2) acc.toArray (List.replicate k its.toArray) = (acc ++ (List.replicate k its).flatten).toArray
  | 0, acc => by simp
  | k + 1, acc => by
    have e : acc.toArray ++ its.toArray = (acc ++ its).toArray := by simp
    have e2 : (acc ++ its) ++ (List.replicate k its).flatten = acc ++ (List.replicate (k + 1) its).flatten := by
      rw [List.replicate_succ, List.flatten_cons, List.append_assoc]
    rw [← e2, ← foldl_rep its k (acc ++ its), ← e, List.replicate_succ, List.foldl_cons]

section
variable {X : Cx} {pins : List (Addr × Obj)} {σ : St} {H : Hp} {s : Shared} {l b : Addr} {xs ys zs : List V}

/-! ### the two steps: a tracked list is rewritten, a new list is laid -/
theorem Inv.lset {its its' : List Value} {n : Nat} {f : Array Value → Array Value} {t' : Nat} (I : Inv X pins σ H s) (hH : H l = some (.lst xs))
    (e : s.heap.get? l = some { cls := .type "list", data := .seq its.toArray n }) (hf : f its.toArray = its'.toArray) (hv : Vals ys its') (hz : ys.length ≤ sizeLine) :
    Inv X pins σ (upd H l (.lst ys)) { s with heap := s.heap.update l (Obj.mapSeq f), toks := t' } := by
  have q := PySem.IsL.update e f
  rw [hf] at q
  refine I.write (x := l) (e := l) (by rw [hH]; exact trivial) (.inl rfl) (fun b' u hb hu => (Heap.get?_update_other s.heap (Obj.mapSeq f) (Ne.symm hb)).trans hu) ⟨_, q⟩ ?_
  exact ⟨hz, its', _, hv, q⟩
theorem Inv.lnew {its : List Value} {t' : Nat} (I : Inv X pins σ H s) (hv : Vals ys its) (hz : ys.length ≤ sizeLine) :
    Inv X pins σ (upd H s.heap.objs.size (.lst ys)) { s with heap := s.heap.push { cls := .type "list", data := .seq its.toArray }, toks := t' } :=
  I.laid (fun _ _ q => Heap.get?_push_of_some _ q) (Nat.le_refl _) ⟨hz, its, 0, hv, Heap.get?_push_size _ rfl⟩
theorem Inv.fresh (I : Inv X pins σ H s) : H s.heap.objs.size = none := I.hok.fresh (Nat.le_refl _)
theorem Inv.lstM (I : Inv X pins σ H s) (hH : H l = some (.lst xs)) : xs.length ≤ sizeLine ∧ ∃ (its : List Value) (n : Nat), Vals xs its ∧ xs.length = its.length ∧ s.heap.get? l = some { cls := .type "list", data := .seq its.toArray n } := by
  obtain ⟨z, its, n, r, e⟩ := I.hok l _ hH
  exact ⟨z, its, n, r, r.length, e⟩

theorem notLongL {n : Nat} (h : n ≤ sizeLine) : Builtin.List.listTooLong n = false := by
  unfold Builtin.List.listTooLong
  exact decide_eq_false (by omega)
end

section
variable {X : Cx}

/-! ### methods -/
noncomputable def rAppend : V → List V → Hp → VK → Prop := fun x vs H Q => ∃ l xs y, x = .ref l ∧ vs = [y] ∧ H l = some (.lst xs) ∧ xs.length < sizeLine ∧ Q .non (upd H l (.lst (xs ++ [y])))
theorem mt_append : MtM X "list.append" rAppend := by
  intro pins s σ H x vs v us Q I rx rv h
  obtain ⟨l, xs, y, rfl, rfl, hH, hz, q⟩ := h
  cases rx
  obtain ⟨u, rfl, ru⟩ := rv.one
  obtain ⟨z, its, n, r, hl, e⟩ := I.lstM hH
  refine call_meets F.slot_list_append ⟨_, e, rfl⟩ F.entry_list_append (F.args_list_append_2 _ _) (PySem.list_append l its.toArray n u (by rw [List.size_toArray]; omega)) ⟨e, ?_⟩
  refine ⟨.non, _, I.lset (its' := its ++ [u]) hH e (by simp) (r.append (.cons ru .nil)) ?_, rfl, q⟩
  rw [List.length_append, List.length_singleton]
  omega






/-! ### list + list, list += list, list * int -/
noncomputable def rCat : R2 := fun x y H Q => ∃ l b xs zs, x = .ref l ∧ y = .ref b ∧ H l = some (.lst xs) ∧ H b = some (.lst zs) ∧ xs.length + zs.length ≤ sizeLine ∧ ∀ p, H p = none → Q (.ref p) (upd H p (.lst (xs ++ zs)))
theorem op_cat : OpR X (binaryOp .Add) rCat := by
  intro pins s σ H x y v u Q I rx ry h
  obtain ⟨l, b, xs, zs, rfl, rfl, hH, hB, hz, q⟩ := h
  cases rx
  cases ry
  obtain ⟨z, its, n, r, hl, e⟩ := I.lstM hH
  obtain ⟨z2, its2, n2, r2, hl2, e2⟩ := I.lstM hB
  refine PySem.P.add_list e e2 ?_ (by rw [List.size_toArray, List.size_toArray]; omega)
  have ea : its.toArray ++ its2.toArray = (its ++ its2).toArray := by simp
  rw [ea]
  exact ⟨.ref _, _, I.lnew (t' := s.toks) (r.append r2) (by rw [List.length_append]; omega), rfl, q _ I.fresh⟩
/-- a list times an int (a negative one is nothing) -/
noncomputable def rRep : R2 := fun x y H Q => ∃ l k xs, x = .ref l ∧ y = .int k ∧ H l = some (.lst xs) ∧ -(2 ^ 63) ≤ k ∧ k < 2 ^ 63 ∧ xs.length * k.toNat ≤ sizeLine ∧
  ∀ p, H p = none → Q (.ref p) (upd H p (.lst (List.replicate k.toNat xs).flatten))
theorem len_rep {α : Type} (xs : List α) (k : Nat) : (List.replicate k xs).flatten.length = k * xs.length := by
  induction k with
  | zero => simp
  | succ k ih => rw [List.replicate_succ, List.flatten_cons, List.length_append, ih, Nat.succ_mul, Nat.add_comm]
theorem op_rep : OpR X (binaryOp .Mult) rRep := by
  intro pins s σ H x y v u Q I rx ry h
  obtain ⟨l, k, xs, rfl, rfl, hH, h1, h2, hz, q⟩ := h
  cases rx
  obtain ⟨t, rfl⟩ := ry
  obtain ⟨z, its, n, r, hl, e⟩ := I.lstM hH
  have hlen : its.toArray.size * k.toNat ≤ sizeLine := by rw [List.size_toArray, ← hl]; exact hz
  have hcap : ¬ its.toArray.size * k.toNat > (2 ^ 63 - 1) / 8 := by
    have : (sizeLine : Nat) ≤ (2 ^ 63 - 1) / 8 := by decide
    omega
  have hfit : ¬ (!Builtin.List.listFitsIndex k) = true := by
    rw [fitsIndex_both h1 h2]
    exact Bool.false_ne_true
  have hlong : ¬ Builtin.List.listTooLong (its.toArray.size * k.toNat) = true := by
    rw [notLongL hlen]
    exact Bool.false_ne_true
  have hnew : List.foldl (fun x1 x2 => x1 ++ x2) #[] (List.replicate (if its.toArray.isEmpty = true then 0 else k.toNat) its.toArray) = (List.replicate k.toNat its).flatten.toArray := by
    have f0 : ∀ m : Nat, List.foldl (fun x1 x2 => x1 ++ x2) #[] (List.replicate m its.toArray) = (List.replicate m its).flatten.toArray := fun m => by
      have := foldl_rep its m []
      rw [List.nil_append] at this
      exact this
    rw [f0]
    cases its with
    | nil => simp
    | cons a r' => rw [if_neg (by simp)]
  refine wpAny_binaryOp_repeat_ref (T := "list") (U := "int") (by decide) ⟨_, e, rfl⟩ (fun s' => typeIs_int s' k t) noFill_list_mul F.fills_int_mul F.slot_int_rmul repeat_list F.slot_int_index.lookup
    (call_meets F.slot_int_rmul (typeIs_int s k t) F.entry_int_rmul (F.args_int_rmul_2 _ _) (int___rmul___int_list k t l its.toArray n)
      ⟨e, rfl, ⟨_, e, rfl⟩, call_meets F.slot_list_mul ⟨_, e, rfl⟩ F.entry_list_mul (F.args_list_mul_2 _ _) (AutoListH.list___mul___list_int_3 l its.toArray n k t hfit hcap hlong) ⟨e, ?_⟩⟩)
  rw [hnew]
  exact ⟨.ref _, _, I.lnew (t' := s.toks) (r.rep k.toNat) (by rw [len_rep, Nat.mul_comm]; exact hz), rfl, q _ I.fresh⟩

/-! ### del xs[i] -/
end

/-! ### xs[a:b] = ys -/
section
variable {prog : Program} {w : World} {A : Around} {E : Value → Shared → Prop} {s : Shared}
set_option maxRecDepth 100000 in
end

section
variable {X : Cx}
end
end L2

namespace Att
open PySem PySem.W PySem.Calls PyProof.Rows

/-! ### the script -/
theorem ints_of_wellAll {P : Params} {h : Heap} : ∀ (ns : List Int) (vs : List Value), WellAll P h vs (ns.map WData.int) → IntsAre vs ns := by
  intro ns
  induction ns with
  | nil =>
    intro vs w
    rw [List.map_nil] at w
    cases w
    exact .nil
  | cons n ns ih =>
    intro vs w
    rw [List.map_cons] at w
    cases w with
    | cons a b =>
      cases a
      exact .cons _ _ (ih _ b)

theorem script_of {l : OpenLaw} {n : Nat} (hn : l.most = some n) {P : Params} {h : Heap} {args : List WData} {vals : List Value}
    (hpre : l.row.toRowW.claim.pre args = true) (hwl : WellAll P h vals args) :
    ∃ a vs ns, vals = [Value.ref a] ∧ args = [WData.list (ns.map WData.int)] ∧ h.get? a = some { cls := .type "list", data := .seq vs.toArray } ∧ IntsAre vs ns ∧ ns.length ≤ n := by
  have hsh : WShape.hasAll [] args [.list .int] = true := (pre_splitW hpre).1
  have hc : l.pre.holds [] { args := args } = true := (pre_splitW hpre).2
  obtain ⟨d, r, rfl, h1, h2⟩ := hasAllW_cons hsh
  obtain rfl := hasAllW_nil h2
  obtain ⟨xs, rfl, h3⟩ := hasW_list h1
  obtain ⟨ns, rfl⟩ := items_int h3
  have hlen : ns.length ≤ n := by
    unfold OpenLaw.pre at hc
    have h4 : (WTm.not (.lt (.lit (.int (n : Int))) (.len (.arg 0)))).holds [] { args := [.list (ns.map .int)] } = true := by
      have h4 := (holds_andW hc).1
      rw [hn] at h4
      exact h4
    have h5 := condW_of h4 (w_not (w_lt w_lit (w_len_list (w_arg rfl))))
    rw [List.length_map] at h5
    refine Nat.le_of_not_lt fun q => ?_
    have q' : (n : Int) < ((ns.length : Nat) : Int) := by omega
    first
      | (rw [decide_eq_true q'] at h5; exact absurd h5 (by decide))
      | (simp at h5; omega)
  cases hwl with
  | cons w1 w2 =>
    cases w2
    cases w1 with
    | list ho hall => exact ⟨_, _, ns, rfl, rfl, ho, ints_of_wellAll ns _ hall, hlen⟩

theorem post_true (l : OpenLaw) (args : List WData) : l.row.toRowW.claim.post args (.bool true) args = true :=
  postW_of (r := l.row.toRowW) (X := (true == true))
    (show WShape.has [] (.bool true) .bool = true by first | rfl | decide | simp [WShape.has, WShape.arms, WShape.armsAll])
    (show (WTm.eq .res (.lit (.bool true))).value [] { args := args, res := some (.bool true), after := args } = some (.bool (true == true)) from w_eq_bool (w_res rfl) w_lit) rfl

/-! ### the attachment: holds_open's last premise (the goal 'hc' behind k_head) from a wpAny of the law's body -/

/-- the same from a codeAny of the CALL (for a layer whose function contracts speak of calls) -/
theorem attach_call {l : OpenLaw} {n : Nat} {q : Program} {loose : List Str} {XP : (Str → Option Value) → Heap → Prop} {YP : World → Heap → Prop} {d : DefRec}
    (hn : l.most = some n) (hdf : d.params.defaults = [])
    (call : ∀ (w : World) (s₀ s₁ : Shared) (mg mb : Str → Option Value) (fa : Addr) (o : Obj) (pm cd doc : Value) (a : Addr) (vs : List Value) (ns : List Int),
      Ground q loose [] XP w s₀ mg mb s₁.heap → YP w s₁.heap →
      s₁.heap.get? fa = some o → o.data = .func (docDef d.name d.params d.body d.scope pm cd doc) → s₁.heap.CodeRec cd d.name → mg d.name = some (.ref fa) →
      s₁.heap.get? a = some { cls := .type "list", data := .seq vs.toArray } → IntsAre vs ns → ns.length ≤ n → s₁.gens = #[] →
      codeAny (model l.prog w) callerA (.call (.ref fa) ⟨[.ref a], []⟩) (fun r s' => r = .ok (.ret (.bool true)) ∧ OldK s₁.heap s'.heap ∧ s'.os = s₁.os ∧ AllBare s'.gens) s₁) :
    WalkO q loose XP YP l.row.toRowW d [] (fun f vs => PySem.call f vs) := by
  intro w s₀ s₁ mg mb G Y fa o pm cd doc dV kV ho hd hcd hD hmg hg args vals as hpre hlay hrd hwl hlo
  obtain rfl : dV = .none := Dflts.none hD hdf
  obtain rfl : kV = .none := Dflts.noKw hD
  obtain ⟨a, vs, ns, rfl, rfl, hobj, hints, hlen⟩ := script_of hn hpre hwl
  refine enter_call (codeAny_mono (call w s₀ s₁ mg mb fa o pm cd doc a vs ns G Y ho (fd_plain hd) hcd hmg hobj hints hlen hg) fun r s' hq => ?_)
  obtain ⟨rfl, h2, h3, h4⟩ := hq
  exact ⟨.inl ⟨.bool true, .bool true, [], rfl, fun _ => rfl, .bool true, post_true l _, fun _ => ⟨List.Pairwise.nil, fun _ hm => (nomatch hm)⟩⟩, h2, h3, h4⟩


/-! ### rules over ANY heap (no ledger) from facts about the written part K: the library's own take a ledger (News) for what they write -/
section
variable {prog : Program} {w : World} {A : Around} {E : Value → Shared → Prop} {s : Shared} {K : Frag}





/-! the whole heap as the ledger: makes every rule that writes through a ledger a rule over any heap -/

end
end Att

namespace L2
open PySem PySem.Spec PyProof.Rows

theorem vals_ints : ∀ {vs : List Value} {ns : List Int}, IntsAre vs ns → Vals (ns.map V.int) vs
  | _, _, .nil => .nil
  | _, _, .cons n t h => .cons ⟨t, rfl⟩ (vals_ints h)

/-- nothing is tracked but the script, known to the object (or it is an object of the module) -/
noncomputable def Only (H : Hp) : Prop := ∀ b, H b = none ∨ ∃ o xs, H b = some (.frz o (.lst xs))

/-- THE HEAD: the law's promise, at the heap behind the top. F, the promise of the law's def, may use that base is part of the heap (so K.In base, base.Ns mainGlobals mg stand in Mod) -/
theorem law_call {P : Program} {w : World} {K : PySem.W.Frag} {mg mb : Str → Option Value} {CX : CXT} {k : Nat} {fa a : Addr} {fd : FuncData} {x : Str} {sp : Sp} {s₁ : Shared} {vs : List Value} {ns : List Int}
    (KX : K.In s₁.heap) (hns : s₁.heap.Ns mainGlobals mg) (hb : s₁.heap.Ns builtinsNs mb) (hbb : ∀ x : Str, x ≠ "__name__" → mb x = bootBuiltins x) (hlim : s₁.heap.NoLimit) (hg : s₁.gens = #[])
    (ha : s₁.heap.get? a = some { cls := .type "list", data := .seq vs.toArray }) (hi : IntsAre vs ns) (hl : ns.length ≤ sizeLine) (hr : Room k callerA)
    (F : ∀ base : Heap, K.In base → base.Ns mainGlobals mg → FnOk P w K mg base CX k fa fd [x] sp) (hbind : ∀ (s : Shared) (u : Value), BindsTo s fd ⟨[u], []⟩ [(x, u)])
    (hsp : ∀ H : Hp, Only H → SqL K H a (ns.map V.int) → sp [.ref a] H (fun v _ => v = .bl true) fun _ _ _ => False)
    (hCX : ∀ H e s', CX [] H s₁ (fun _ _ _ => False) e s' → False) :
    codeAny (model P w) callerA (.call (.ref fa) ⟨[.ref a], []⟩) (fun r s' => r = .ok (.ret (.bool true)) ∧ OldK s₁.heap s'.heap ∧ s'.os = s₁.os ∧ AllBare s'.gens) s₁ := by
  have rv := vals_ints hi
  have lenV := hi.length
  -- from an abstract heap in which nothing but the script may be tracked
  have core : ∀ H : Hp, Only H → SqL K H a (ns.map V.int) → HOk P w H s₁.heap → (∀ b, H b ≠ none → b = a) → (H a ≠ none → K.lookup a = none) →
      codeAny (model P w) callerA (.call (.ref fa) ⟨[.ref a], []⟩) (fun r s' => r = .ok (.ret (.bool true)) ∧ OldK s₁.heap s'.heap ∧ s'.os = s₁.os ∧ AllBare s'.gens) s₁ := by
    intro H hO hS hok hA hK
    have base_of : ∀ {b : Addr} {o : Obj}, s₁.heap.get? b = some o → H b = none → (hidT s₁.heap H).get? b = some o := fun e n => hidT_get e n
    have noA : ∀ {b : Addr} {o : Obj} {es : Array DictEntry} {ep : Nat}, s₁.heap.get? b = some o → o.data = .dict es ep → H b = none := fun {b o es ep} e d => by
      cases q : H b with
      | none => rfl
      | some u =>
        have e' : b = a := hA b (by rw [q]; simp)
        subst e'
        rw [ha] at e; cases e
        have d' : Data.seq vs.toArray _ = Data.dict es ep := d
        cases d'
    have nsK : ∀ {b : Addr} {m : Str → Option Value}, s₁.heap.Ns b m → (hidT s₁.heap H).Ns b m := fun {b m} ⟨o, es, ep, e, d, r⟩ => ⟨o, es, ep, base_of e (noA e d), d, r⟩
    have hKb : K.In (hidT s₁.heap H) := fun b o e => base_of (KX b o e) (by
      cases q : H b with
      | none => rfl
      | some u =>
        have e' : b = a := hA b (by rw [q]; simp)
        subst e'
        rw [hK (by rw [q]; simp)] at e; cases e)
    have hM : Mod K mg (hidT s₁.heap H) := ⟨hKb, nsK hns, ⟨mb, nsK hb, hbb⟩, let ⟨mc, h1, h2⟩ := hlim; ⟨mc, nsK h1, h2⟩⟩
    have e0 : Env0 P w K mg (hidT s₁.heap H) callerA [] s₁ H := ⟨rfl, hM, fun b o e => of_hidT e, Nat.le_of_eq (hidT_size _ _), trivial, fun b hb => absurd (show b ∈ ([] : List Addr) from hb) (by simp), hok, .of_eq hg⟩
    refine codeAny_mono ((F _ hKb (nsK hns)).run callerA [] s₁ H ⟨[.ref a], []⟩ [.ref a] [.ref a] _ _ hr e0 (hbind s₁ (.ref a)) (.cons rfl .nil) (hsp H hO hS)) fun r s' h => ?_
    cases r with
    | error e => exact (hCX H e s' h).elim
    | ok fl =>
      cases fl with
      | next => exact False.elim h
      | brk => exact False.elim h
      | cont => exact False.elim h
      | ret u =>
        obtain ⟨v, H', os, bare, un, hok', r', q⟩ := h
        have q' : v = .bl true := q
        subst q'
        obtain rfl : u = Value.bool true := r'
        refine ⟨rfl, OldK.of_keep fun b o e => ?_, os, bare⟩
        cases q : H b with
        | none => exact un.keep b o e q (by intro z; exact absurd (show b ∈ ([] : List Addr) from z) (by simp)) (by simp)
        | some u =>
          rcases hO b with z | ⟨ob, xs, z⟩
          · rw [q] at z; cases z
          · have z2 := un.frzs b ob _ z
            obtain ⟨e1, _⟩ := hok b _ z
            obtain ⟨e2, _⟩ := hok' b _ z2
            rw [e] at e1; cases e1
            exact e2
  cases hk : K.lookup a with
  | some o =>
    -- the script is one of the module's own objects
    have e := KX a o hk
    rw [ha] at e
    cases e
    refine core (fun _ => none) (fun _ => .inl rfl) (.inr ⟨_, vs.toArray, _, hk, rfl, rfl, rfl, by rw [List.size_toArray, lenV]; exact hl, by simpa using rv⟩) (fun b u z => by have z' : (none : Option HO) = some u := z; cases z') (fun b z => absurd rfl z) fun z => absurd rfl z
  | none =>
    refine core (fun b => if b = a then some (.frz { cls := .type "list", data := .seq vs.toArray } (.lst (ns.map V.int))) else none) (fun b => ?_) (.inl (.inr ⟨{ cls := .type "list", data := .seq vs.toArray }, if_pos rfl⟩)) (fun b u z => ?_) (fun b z => ?_) fun _ => hk
    · by_cases hb : b = a
      · exact .inr ⟨_, _, if_pos hb⟩
      · exact .inl (if_neg hb)
    · by_cases hb : b = a
      · have z' := (if_pos hb).symm.trans z
        cases z'
        subst hb
        exact ⟨ha, by rw [List.length_map]; exact hl, vs, _, rv, ha⟩
      · have z' := (if_neg hb).symm.trans z
        cases z'
    · by_cases hb : b = a
      · exact hb
      · exact absurd (if_neg hb) z
end L2

namespace L2
open PySem PySem.Spec PyProof.Rows

noncomputable abbrev KOf {K : PySem.W.Frag} {h : Heap} (_ : K.In h) : PySem.W.Frag := K

/-- the goal that k_head leaves (case hc), from the law's promise. F gives the function object fd (K's own) once, then the promise over every base -/
theorem walk_of {l : PySem.W.OpenLaw} {n k : Nat} {q : Program} {loose : List Str} {XP : (Str → Option Value) → Heap → Prop} {YP : World → Heap → Prop} {d : DefRec} {K : Params → PySem.W.Frag} {CX : World → CXT} {sp : World → Sp} {x : Str}
    (hn : l.most = some n) (hn2 : n ≤ sizeLine) (hdf : d.params.defaults = []) (hr : Room k callerA)
    (hY : ∀ (w : World) (h : Heap), YP w h → (K w.params).In h)
    (F : ∀ (w : World) (mg : Str → Option Value) (fa : Addr) (h : Heap), (K w.params).In h → h.Ns mainGlobals mg → mg d.name = some (.ref fa) →
      ∃ fd : FuncData, (∀ (s : Shared) (u : Value), BindsTo s fd ⟨[u], []⟩ [(x, u)]) ∧
        ∀ base : Heap, (K w.params).In base → base.Ns mainGlobals mg → FnOk l.prog w (K w.params) mg base (CX w) k fa fd [x] (sp w))
    (hsp : ∀ (w : World) (H : Hp) (a : Addr) (ns : List Int), ns.length ≤ n → Only H → SqL (K w.params) H a (ns.map V.int) → sp w [.ref a] H (fun v _ => v = .bl true) fun _ _ _ => False)
    (hCX : ∀ (w : World) (H : Hp) (s : Shared) (e : Value) (s' : Shared), CX w [] H s (fun _ _ _ => False) e s' → False) :
    PySem.W.WalkO q loose XP YP l.row.toRowW d [] (fun f vs => PySem.call f vs) := by
  refine Att.attach_call hn hdf fun w s₀ s₁ mg mb fa o pm cd doc a vs ns G Y ho hd hcd hmg hobj hints hlen hg => ?_
  have KX := hY w _ Y
  obtain ⟨fd, hb, hF⟩ := F w mg fa _ KX G.T.g hmg
  exact law_call KX G.T.g G.T.b G.T.builtins G.T.nolimit hg hobj hints (Nat.le_trans hlen hn2) hr hF hb (fun H hO hS => hsp w H a ns hlen hO hS) fun H e s' => hCX w H s₁ e s'
end L2

/- THE LAST THEOREM (shape; LID, My.* are yours):
   My.Adr: a structure of the addresses that your layer names (classes, functions); My.Txt K t: a structure (Prop) of the equations over K;
   My.txt_mk : {K} {implicit addresses ..} (e1 : nsIn K mainGlobals "law" = some (some (.ref f))) (e2 : K.lookup f = some ⟨oc, od, .func (fnOf "law" "law" params body scope dV kV doc pm an cdv ct), sl⟩) (e3 : codeIn K cdv "law" = true) .. : ∃ t, My.Txt K t

set_option maxRecDepth 100000 in
set_option maxHeartbeats 0 in
theorem PySem.Challenge.cw_LID_holds : PySem.Challenge.rw_LID.Holds := by
  w_on; o_law; k_head; (case hw => w_witness2)
  k_fill
  refine L2.walk_of (l := PySem.Challenge.rw_LID) (n := 63) (k := 40) (x := "script") (CX := fun w => ..) (sp := fun _ => My.sp_law) rfl (by decide) rfl ⟨rfl, by decide, by decide⟩ (fun w h Y => PySem.W.kIn_of Y) ?F ?S ?C
  case F =>
    intro w mg fa h KX G hmg
    have T : ∃ t, My.Txt (L2.KOf KX) t := by
      dsimp only [L2.KOf]                          -- K must stand as «<heap const> w.params» for k_is
      refine' My.txt_mk ?e1 ?e2 ?e3 ..
      (case e1 => PySem.W.k_is)                    -- in the order: a name -> its address -> its object -> its parts
      (case e2 => PySem.W.k_is)
      ..
    obtain ⟨t, T⟩ := T
    have e0 := hmg.symm.trans (PySem.W.mg_of KX G T.law)
    cases e0                                       -- fa is the law's own address
    exact ⟨_, fun s u => .of_eq rfl, fun base kb nb => My.law_fn T kb nb⟩     -- if «.of_eq rfl» comes too early: refine' ⟨_, ?b, fun base kb nb => My.law_fn T kb nb⟩; exact fun s u => .of_eq rfl
  case S => exact fun w H a ns hl hO hS => ..
  case C => exact ..
(the tactic k_is has no namespace: write k_is) -/

/-! SHORT WORDS over the layer: a def of the text, its body, what a loop and a test want. -/
namespace L2
open PySem PySem.Spec PyProof.Rows

/-! ### the text by places -/
noncomputable def defArgs (s : Stmt) : Arguments := match s with
  | .FunctionDef _ a _ _ _ _ _ _ _ _ => a
  | _ => { posonlyargs := [], args := [], vararg := none, kwonlyargs := [], kw_defaults := [], kwarg := none, defaults := [] }
noncomputable def defBody (s : Stmt) : List Stmt := match s with
  | .FunctionDef _ _ b _ _ _ _ _ _ _ => b
  | _ => []
noncomputable def defScope (s : Stmt) : Scope := match s with
  | .FunctionDef _ _ _ _ _ _ sc _ _ _ => sc
  | _ => { kind := .function, names := [], isGenerator := false, isCoroutine := false }

/-! ### no exception leaves a def -/
noncomputable abbrev CX0 : CXT := fun _ _ _ _ _ _ => False
noncomputable abbrev E0 : XK := fun _ _ _ => False
theorem pass0 {X : Cx} : Passes CX0 X E0 := fun _ _ _ _ _ _ _ h => h.elim

/-! ### a def (or method) of the text as it stands behind the top -/
structure Fun (K : PySem.W.Frag) (x qual : Str) (st : Stmt) (f : Addr) (fd : FuncData) : Prop where
  ex : ∃ (oc : Value) (od : Option Addr) (kV doc pm : Value) (an : Option Addr) (cdv ct : Value) (osl : Array (Option Value)),
    fd = PySem.W.fnOf x qual (defArgs st) (defBody st) (defScope st) .none kV doc pm an cdv ct ∧ K.lookup f = some ⟨oc, od, .func fd, osl⟩ ∧ PySem.W.codeIn K cdv qual = true
  kp : PySem.W.keepIn K (.ref f) = true
section
variable {P : Program} {w : World} {K : PySem.W.Frag} {mg : Str → Option Value} {base : Heap}
/-- THE RULE for a def: its body as a term of rules, and the reading of that term -/
theorem Fun.ok {x qual : Str} {st : Stmt} {f : Addr} {fd : FuncData} {N ps : List Str} {k : Nat} {sp : Sp} (F : Fun K x qual st f fd) (S : FnScope N ps (defScope st)) (len : ∀ vs H Q E, sp vs H Q E → vs.length = ps.length)
    (hbody : ∀ (cdv : Value) (A : Around) (outer : List Env) (s : Shared) (H : Hp) (vs : List V) (Q : VK) (E : XK), Room k (A.deeper (envOfC qual (defScope st) s.heap.objs.size f cdv)) → sp vs H Q E →
      ∃ t, PSs (cxOf CX0 P w K mg base N qual (defScope st) f cdv A outer s H E).nox (defBody st) t ∧ t { nx := fun _ H' => Q .non H', rt := Q } (start N vs) H) : FnOk P w K mg base CX0 (k + 1) f fd ps sp := by
  obtain ⟨oc, od, kV, doc, pm, an, cdv, ct, osl, rfl, lk, hcd⟩ := F.ex
  refine fn_of lk hcd S len fun A outer s H vs Q E hr hsp => ?_
  obtain ⟨t, h, q⟩ := hbody cdv A outer s H vs Q E hr hsp
  exact ⟨t, h.nox, q⟩
/-- how its arguments bind (no defaults): h is «fun _ _ _ _ _ _ us hl => match us, hl with | [_, _], _ => rfl», one _ a parameter -/
theorem Fun.binds {x qual : Str} {st : Stmt} {f : Addr} {fd : FuncData} {ps : List Str} (F : Fun K x qual st f fd)
    (h : ∀ (kV doc pm : Value) (an : Option Addr) (cdv ct : Value) (us : List Value), us.length = ps.length → bindArgs (PySem.W.fnOf x qual (defArgs st) (defBody st) (defScope st) .none kV doc pm an cdv ct) ⟨us, []⟩ = pure (ps.zip us)) : Binds K fd ps [] := by
  obtain ⟨oc, od, kV, doc, pm, an, cdv, ct, osl, rfl, lk, hcd⟩ := F.ex
  exact .all (h kV doc pm an cdv ct)
theorem fun_mk {x qual : Str} {st : Stmt} {f : Addr} {oc : Value} {od an : Option Addr} {osl : Array (Option Value)} {kV doc pm cdv ct : Value} (l : K.lookup f = some ⟨oc, od, .func (PySem.W.fnOf x qual (defArgs st) (defBody st) (defScope st) .none kV doc pm an cdv ct), osl⟩)
    (c : PySem.W.codeIn K cdv qual = true) (k : PySem.W.keepIn K (.ref f) = true) : Fun K x qual st f (PySem.W.fnOf x qual (defArgs st) (defBody st) (defScope st) .none kV doc pm an cdv ct) := ⟨⟨oc, od, kV, doc, pm, an, cdv, ct, osl, rfl, l, c⟩, k⟩
end
theorem small1000 {n : Nat} (h : n ≤ 1000) : n < sizeLine := Nat.lt_of_le_of_lt h (by decide)

/-! ### expressions in short: the name that stands in the i-th slot -/
section
variable {X : Cx}
theorem pv (i : Nat) {x : Str} {pos : Pos} (hN : X.N[i]? = some x := by rfl) (hv : Vis X.env.scope x := by first | exact Or.inl rfl | exact Or.inr (Or.inl rfl) | exact Or.inr (Or.inr rfl)) (hd : (x == ("__debug__" : Str)) = false := by decide)
    (hcd : (x == ("__classdict__" : Str)) = false := by decide) : PE X (.Name x pos) (tVar i) := pe_var hN hv hd hcd
end

/-! ### tests -/
theorem iteF {A B : Prop} (h : B) : if false = true then A else B := by
  rw [if_neg Bool.false_ne_true]
  exact h
theorem iteT {A B : Prop} (h : A) : if true = true then A else B := by
  rw [if_pos rfl]
  exact h

/-! ### heaps -/
/-- all that was tracked is as it was -/
noncomputable def Same (H H' : Hp) : Prop := ∀ b o, H b = some o → H' b = some o
theorem Same.refl (H : Hp) : Same H H := fun _ _ h => h
theorem Same.trans {H H1 H2 : Hp} (a : Same H H1) (b : Same H1 H2) : Same H H2 := fun c o h => b c o (a c o h)
theorem Same.free {H H' : Hp} (e : Same H H') {l : Addr} (h : H' l = Option.none) : H l = Option.none := by
  cases q : H l with
  | none => rfl
  | some o =>
    rw [e l o q] at h
    cases h
theorem Same.seq {K : PySem.W.Frag} {H H' : Hp} {a : Addr} {xs : List V} (e : Same H H') (h : SqL K H a xs) : SqL K H' a xs := by
  rcases h with (h | ⟨o, h⟩) | h
  · exact .inl (.inl (e _ _ h))
  · exact .inl (.inr ⟨o, e _ _ h⟩)
  · exact .inr h

end L2

set_option Elab.async false
set_option linter.all false
set_option maxRecDepth 100000
namespace L2
open PySem PySem.Spec PyProof.Rows

/-! ### the cells that a comprehension's block takes from its frame -/
noncomputable def closL (env : Env) : List (Str × NameKind) → List (Str × Addr) → List (Str × Addr)
  | [], cs => cs
  | (n, k) :: r, cs => closL env r (if k == .free then (match env.cells.lookup n with | some a => (n, a) :: cs | none => cs) else cs)
/-- the names of a block: none is a cell of its own, each free one is a cell or free in the frame -/
noncomputable def FrOk (env : Env) : List (Str × NameKind) → Prop
  | [] => True
  | (n, k) :: r => (match k with | .free => (env.kindOf n = some .cell ∨ env.kindOf n = some .free) | .cell => False | _ => True) ∧ FrOk env r
theorem FrOk.free {env : Env} : ∀ {ns : List (Str × NameKind)} {n : Str}, FrOk env ns → (n, NameKind.free) ∈ ns → env.kindOf n = some .cell ∨ env.kindOf n = some .free
  | [], _, _, h => by cases h
  | (m, k) :: r, n, f, h => by
    obtain ⟨a, b⟩ := f
    rcases List.mem_cons.mp h with e | e
    · cases e; exact a
    · exact b.free e
theorem FrOk.nocell {env : Env} : ∀ {ns : List (Str × NameKind)}, FrOk env ns → ∀ y ∈ ns, y.2 ≠ .cell
  | [], _, _, h => by cases h
  | (m, k) :: r, f, y, h => by
    obtain ⟨a, b⟩ := f
    rcases List.mem_cons.mp h with e | e
    · subst e
      intro e
      have e' : k = .cell := e
      subst e'
      exact a
    · exact b.nocell y e
theorem closure_go {env : Env} : ∀ (ns : List (Str × NameKind)) (cs : List (Str × Addr)), (∀ n, (n, NameKind.free) ∈ ns → ∃ a, env.cells.lookup n = some a) →
    (forIn (m := Sem) ns cs fun x r => match x with | (name, kind) => (if (kind == NameKind.free) = true then (do let a ← cellOf env name; pure (ForInStep.yield ((name, a) :: r))) else pure (ForInStep.yield r))) = pure (closL env ns cs)
  | [], cs, _ => rfl
  | (n, k) :: r, cs, h => by
    rw [List.forIn_cons]
    cases hk : (k == NameKind.free) with
    | false =>
      simp only [hk, Bool.false_eq_true, if_false]
      rw [pure_bind]
      show forIn (m := Sem) r cs _ = pure (closL env r (if (k == NameKind.free) = true then _ else cs))
      rw [hk]
      exact closure_go r cs fun n hn => h n (List.mem_cons_of_mem _ hn)
    | true =>
      have ek : k = .free := by simpa using hk
      subst ek
      obtain ⟨a, ha⟩ := h n List.mem_cons_self
      simp only [hk, if_true]
      unfold cellOf
      rw [ha]
      simp only [pure_bind]
      show forIn (m := Sem) r ((n, a) :: cs) _ = pure (closL env r (if (NameKind.free == NameKind.free) = true then (match env.cells.lookup n with | some a => (n, a) :: cs | none => cs) else cs))
      rw [hk, if_pos rfl, ha]
      exact closure_go r _ fun n hn => h n (List.mem_cons_of_mem _ hn)
theorem closure_eq {env : Env} {sc : Scope} (h : ∀ n, (n, NameKind.free) ∈ sc.names → ∃ a, env.cells.lookup n = some a) : closureFor sc env = pure (closL env sc.names []) := by
  unfold closureFor
  exact (congrArg (fun z => z >>= fun r => pure r) (closure_go sc.names [] h)).trans (by simp)
theorem closL_sub {env : Env} : ∀ {ns : List (Str × NameKind)} {cs : List (Str × Addr)}, (∀ x c, cs.lookup x = some c → env.cells.lookup x = some c) → ∀ x c, (closL env ns cs).lookup x = some c → env.cells.lookup x = some c
  | [], _, h, x, c, e => h x c e
  | (n, k) :: r, cs, h, x, c, e => by
    refine closL_sub (ns := r) (fun y d q => ?_) x c e
    by_cases hk : (k == NameKind.free) = true
    · rw [if_pos hk] at q
      cases hn : env.cells.lookup n with
      | none => rw [hn] at q; exact h y d q
      | some a =>
        rw [hn] at q
        simp only [List.lookup_cons] at q
        cases hy : (y == n) with
        | true =>
          rw [hy] at q
          have : y = n := by simpa using hy
          subst this
          rw [hn]; exact q
        | false => rw [hy] at q; exact h y d q
    · rw [if_neg hk] at q; exact h y d q
theorem closL_has {env : Env} : ∀ {ns : List (Str × NameKind)} {cs : List (Str × Addr)} {x : Str}, ((∃ c, cs.lookup x = some c) ∨ ((x, NameKind.free) ∈ ns ∧ ∃ a, env.cells.lookup x = some a)) → ∃ c, (closL env ns cs).lookup x = some c
  | [], cs, x, h => by
    rcases h with h | ⟨h, _⟩
    · exact h
    · cases h
  | (n, k) :: r, cs, x, h => by
    refine closL_has (ns := r) ?_
    rcases h with ⟨c, h⟩ | ⟨h, a, ha⟩
    · left
      by_cases hk : (k == NameKind.free) = true
      · rw [if_pos hk]
        cases hn : env.cells.lookup n with
        | none => exact ⟨c, h⟩
        | some a =>
          simp only [List.lookup_cons]
          cases hy : (x == n) with
          | true => exact ⟨a, rfl⟩
          | false => exact ⟨c, h⟩
      · rw [if_neg hk]; exact ⟨c, h⟩
    · rcases List.mem_cons.mp h with e | e
      · left
        cases e
        rw [if_pos (by rfl), ha]
        exact ⟨a, by simp⟩
      · exact .inr ⟨e, a, ha⟩
theorem lookup_mem {α : Type} : ∀ {ns : List (Str × α)} {x : Str} {k : α}, ns.lookup x = some k → (x, k) ∈ ns
  | [], _, _, h => by cases h
  | (n, j) :: r, x, k, h => by
    simp only [List.lookup_cons] at h
    cases hx : (x == n) with
    | true =>
      rw [hx] at h
      cases h
      have : x = n := by simpa using hx
      subst this
      exact List.mem_cons_self
    | false => rw [hx] at h; exact List.mem_cons_of_mem _ (lookup_mem h)
noncomputable def rlb (env : Env) (p : Str × NameKind) : Str × NameKind := if (p.2 == NameKind.free && env.scope.kind == .function && env.kindOf p.1 == some .cell) then (p.1, NameKind.cell) else (p.1, p.2)
theorem rlb_fst (env : Env) (p : Str × NameKind) : (rlb env p).1 = p.1 := by
  unfold rlb
  split <;> rfl
theorem rlb_free (env : Env) (n : Str) : (rlb env (n, .free)).2 = .cell ∨ (rlb env (n, .free)).2 = .free := by
  unfold rlb
  split
  · exact .inl rfl
  · exact .inr rfl
theorem rlb_back (env : Env) (p : Str × NameKind) (hn : p.2 ≠ .cell) (h : (rlb env p).2 = .cell ∨ (rlb env p).2 = .free) : p.2 = .free := by
  unfold rlb at h
  split at h
  · rename_i hc
    have h1 := (Bool.and_eq_true _ _).mp hc
    have h2 := (Bool.and_eq_true _ _).mp h1.1
    simpa using h2.1
  · rcases h with h | h
    · exact absurd h hn
    · exact h
theorem lookup_consP {α : Type} (x : Str) (p : Str × α) (r : List (Str × α)) : (p :: r).lookup x = if (x == p.1) = true then some p.2 else r.lookup x := by
  obtain ⟨n, k⟩ := p
  rw [List.lookup_cons]
  cases (x == n) <;> rfl
theorem relabel_free {env : Env} : ∀ {names : List (Str × NameKind)} {x : Str}, names.lookup x = some .free → (names.map (rlb env)).lookup x = some .cell ∨ (names.map (rlb env)).lookup x = some .free
  | [], _, h => by cases h
  | (n, k) :: r, x, h => by
    have ih := @relabel_free env r x
    rw [List.map_cons, lookup_consP, rlb_fst]
    rw [lookup_consP] at h
    by_cases hx : (x == n) = true
    · rw [if_pos hx] at h ⊢
      cases h
      rcases rlb_free env n with e | e
      · exact .inl (congrArg some e)
      · exact .inr (congrArg some e)
    · rw [if_neg hx] at h ⊢
      exact ih h
theorem relabel_back {env : Env} : ∀ {names : List (Str × NameKind)} {x : Str}, (∀ y ∈ names, y.2 ≠ .cell) → ((names.map (rlb env)).lookup x = some .cell ∨ (names.map (rlb env)).lookup x = some .free) → (x, NameKind.free) ∈ names
  | [], _, _, h => by rcases h with h | h <;> cases h
  | (n, k) :: r, x, hn, h => by
    have ih := @relabel_back env r x (fun y hy => hn y (List.mem_cons_of_mem _ hy))
    rw [List.map_cons, lookup_consP, rlb_fst] at h
    by_cases hx : (x == n) = true
    · rw [if_pos hx] at h
      have ex : x = n := by simpa using hx
      subst ex
      have e := rlb_back env (x, k) (hn _ List.mem_cons_self) (h.imp Option.some.inj Option.some.inj)
      have e' : k = .free := e
      subst e'
      exact List.mem_cons_self
    · rw [if_neg hx] at h
      exact List.mem_cons_of_mem _ (ih h)

/-! ### a block's context -/
noncomputable def blk (X : Cx) (sc : Scope) (M : List Str) (C : Addr) (fp : List Addr) (s : Shared) (H : Hp) : Cx :=
  { X with N := M, s₀ := s, H₀ := H, env := compEnvC sc (closL X.env sc.names []) C X.env, outer := X.stack, stack := X.stack, ex := fp, fn := fun _ => false, pn := [], xe := fun _ _ => False }
/-- which slots of the block are slots of the frame -/
inductive FmOk (N : List Str) (sc : Scope) : List Str → List (Option Nat) → Prop
  | nil : FmOk N sc [] []
  | own {x M fm} : FmOk N sc M fm → FmOk N sc (x :: M) (none :: fm)
  | free {x M fm} (j : Nat) : N[j]? = some x → sc.names.lookup x = some .free → FmOk N sc M fm → FmOk N sc (x :: M) (some j :: fm)
noncomputable def fmSt (fm : List (Option Nat)) (σ : St) : St := fm.map fun o => match o with | none => none | some j => (σ[j]?).join
theorem FmOk.len {N : List Str} {sc : Scope} : ∀ {M : List Str} {fm : List (Option Nat)}, FmOk N sc M fm → fm.length = M.length
  | _, _, .nil => rfl
  | _, _, .own h => by simp [h.len]
  | _, _, .free _ _ _ h => by simp [h.len]
theorem FmOk.get {N : List Str} {sc : Scope} {σ : St} : ∀ {M : List Str} {fm : List (Option Nat)} {i : Nat} {x : Str} {v : V}, FmOk N sc M fm → M[i]? = some x → (fmSt fm σ)[i]? = some (some v) → ∃ (j : Nat), N[j]? = some x ∧ sc.names.lookup x = some .free ∧ σ[j]? = some (some v)
  | _, _, i, x, v, .nil, e, _ => by simp at e
  | _, _, 0, x, v, .own h, e, q => by simp [fmSt] at q
  | _, _, 0, x, v, .free j a b h, e, q => by
    simp at e
    subst e
    refine ⟨j, a, b, ?_⟩
    have q' : (σ[j]?).join = some v := by simpa [fmSt] using q
    cases hs : σ[j]? with
    | none => rw [hs] at q'; cases q'
    | some o =>
      rw [hs] at q'
      have : o = some v := q'
      rw [this]
  | _, _, i + 1, x, v, .own h, e, q => h.get (i := i) (by simpa using e) (by simpa [fmSt] using q)
  | _, _, i + 1, x, v, .free j a b h, e, q => h.get (i := i) (by simpa using e) (by simpa [fmSt] using q)

section
variable {X : Cx} {pins : List (Addr × Obj)} {σ : St} {H : Hp} {s : Shared} {sc : Scope} {M : List Str} {C : Addr} {fp : List Addr}
theorem blk_ok (I : Inv X pins σ H s) (hf : ∀ b ∈ fp, FpOk X pins H b) (hl : ∀ b ∈ fp, b < s.heap.objs.size) (hC : s.heap.objs.size ≤ C) (fr : FrOk X.env sc.names) (hk : sc.kind = .function) : (blk X sc M C fp s H).Ok where
  mod := I.ok.mod
  kind := hk
  glob := I.ok.glob
  blt := I.ok.blt
  above := hC
  inj := fun x y c e1 e2 => I.ok.inj x y c (closL_sub (fun _ _ z => by cases z) x c e1) (closL_sub (fun _ _ z => by cases z) y c e2)
  has := fun x h => by
    have hm : (x, NameKind.free) ∈ sc.names := relabel_back (env := X.env) fr.nocell h
    exact closL_has (.inr ⟨hm, I.ok.has x (fr.free hm)⟩)
  cab := fun x c h _ => by cases h
  hd := I.ok.hd
  frames := I.ok.frames
  stk := .inl rfl
  exf := fun b hb => ⟨Nat.ne_of_lt (Nat.lt_of_lt_of_le (hl b hb) hC), fun x c e => (hf b hb).2.2.2.2.1 x c (closL_sub (fun _ _ z => by cases z) x c e)⟩
  bs := I.bs
  bsz := Nat.le_trans I.ok.bsz I.sz
  noex := fun b o e hb => by
    rcases (hf b hb).2.2.2.1 with z | z
    · exact I.ok.noex b o e z
    · exact absurd (Nat.lt_of_lt_of_le (Heap.lt_size (I.ok.bs b o e).1) z) (Nat.lt_irrefl _)
  exfs := fun b hb hs => by
    rcases List.mem_cons.mp (I.stkSub b hs) with e | e
    · exact (hf b hb).2.1 e
    · exact (hf b hb).2.2.1 e
  funs := I.stack
  frf := I.stkFree
theorem blk_in {h₁ : Heap} {t : Nat} {pl : List (Addr × Obj)} {m : Str → Option Value} {fm : List (Option Nat)} (I : Inv X pins σ H s) (hf : ∀ b ∈ fp, FpOk X pins H b) (hl : ∀ b ∈ fp, b < s.heap.objs.size) (hC : s.heap.objs.size ≤ C) (fr : FrOk X.env sc.names) (hk : sc.kind = .function)
    (hfm : FmOk X.N sc M fm) (k : ∀ b o, s.heap.get? b = some o → h₁.get? b = some o) (hn : h₁.Ns C m)
    (hp : ∀ p ∈ pl, h₁.get? p.1 = some p.2 ∧ H p.1 = none ∧ p.1 ≠ C ∧ p.1 ∉ frs X.stack ∧ ∀ v, p.2.data ≠ .cell v) : Inv (blk X sc M C fp s H) pl (fmSt fm σ) H { s with heap := h₁, toks := t } where
  ok := blk_ok I hf hl hC fr hk
  os := rfl
  bare := I.bare
  base := Un.kept k
  loc := ⟨m, hn, fun i x v e1 e2 e3 => by
    obtain ⟨j, a, b, c⟩ := hfm.get e1 e2
    obtain ⟨m', hn', hl'⟩ := I.loc
    have hm := lookup_mem b
    have hk' := fr.free hm
    have vis : Vis X.env.scope x := by
      rcases hk' with z | z
      · exact .inr (.inl z)
      · exact .inr (.inr z)
    obtain ⟨u, r, l⟩ := hl' j x v a c vis
    refine ⟨u, r, .inr ⟨relabel_free b, ?_⟩⟩
    rcases l with ⟨z, _⟩ | ⟨_, cc, hcc, hcell⟩
    · rcases hk' with y | y <;> (rw [z] at y; cases y)
    · obtain ⟨c2, e2⟩ := closL_has (env := X.env) (ns := sc.names) (cs := []) (x := x) (.inr ⟨hm, cc, hcc⟩)
      have e3 := closL_sub (fun _ _ z => by cases z) x c2 e2
      rw [hcc] at e3
      cases e3
      refine ⟨cc, e2, ?_⟩
      obtain ⟨o, ho, hd⟩ := hcell
      exact ⟨o, k _ _ ho, hd⟩⟩
  cell := fun x c e => by
    obtain ⟨v, o, ho, hd⟩ := I.cell x c (closL_sub (fun _ _ z => by cases z) x c e)
    exact ⟨v, o, k _ _ ho, hd⟩
  free := I.hok.fresh hC
  freeC := fun x c e => I.freeC x c (closL_sub (fun _ _ z => by cases z) x c e)
  pin := fun p hp' => by
    have hp' : p ∈ pl := by simpa [blk] using hp'
    exact hp p hp'
  hok := I.hok.kept k
  len := by simp [fmSt, hfm.len, blk]
end
end L2

set_option Elab.async false
set_option linter.all false
set_option maxRecDepth 100000
namespace L2
open PySem PySem.Spec PyProof.Rows
/-- one clause's turn, any target -/
theorem compLoop_any {prog : Program} {w : World} {A : Around} {R : Result → Shared → Prop} {s : Shared} {elt target iter : Expr} {ifs : List Expr} {scope : Scope} {pos : Pos} {it acc : Value} {env : Env} (I : Nat → Shared → Prop)
    (turn : ∀ n s, I n s → wpAny (model prog w) A (pyNext it) (fun r s₁ => match r with
      | none => R (.ok .next) s₁
      | some v => wpAny (model prog w) A (letOwnedTupleGo target it v) (fun _ s₁' => wpAny (model prog w) A (assign target env v) (fun _ s₂ =>
          wpAny (model prog w) A (forIn ifs true fun c r => if r = true then do let ok ← isTrue c env (eval c env); pure (ForInStep.yield ok) else pure (ForInStep.yield r)) (fun ok s₃ =>
            if ok = true then wpAny (model prog w) A (eval elt env) (fun x s₄ =>
              wpAny (model prog w) A (call (.builtin "list.append") [acc, x]) (fun _ s₅ => ∃ m, m < n ∧ I m s₅) (fun _ _ => False) s₄) (fun _ _ => False) s₃
            else ∃ m, m < n ∧ I m s₃) (fun _ _ => False) s₂) (fun _ _ => False) s₁') (fun _ _ => False) s₁) (fun _ _ => False) s)
    (n : Nat) (h : I n s) :
    codeAny (model prog w) A (.compLoop (.ListComp elt [⟨target, iter, ifs, 0⟩] scope pos) 0 it acc env) R s := by
  refine codeAny_loop rfl I (fun n s hI => ?_) n h
  show wpAny _ A ((compTurn (.ListComp elt [⟨target, iter, ifs, 0⟩] scope pos) 0 it acc env).onRaise (fun x => do noteFrame x env; theTreesLotGoes x)) _ _ s
  refine wpAny_noted ?_
  rw [compTurn_list]
  refine wpAny_bind (wpAny_standAt (wpAny_bind (wpAny_mono (turn n s hI) (fun r s₁ h₁ => ?_) fun _ _ h' => h'.elim)))
  cases r with
  | none => exact wpAny_pure h₁
  | some v =>
    refine wpAny_bind (wpAny_mono h₁ (fun _ s₁' h₁' => ?_) fun _ _ h' => h'.elim)
    refine wpAny_bind (wpAny_mono h₁' (fun _ s₂ h₂ => wpAny_bind (wpAny_mono h₂ (fun ok s₃ h₃ => ?_) fun _ _ h' => h'.elim)) fun _ _ h' => h'.elim)
    cases ok with
    | false => exact wpAny_pure ⟨rfl, h₃⟩
    | true =>
      exact wpAny_bind (wpAny_bind (wpAny_mono h₃ (fun x s₄ h₄ => wpAny_bind (wpAny_mono h₄ (fun _ s₅ h₅ => wpAny_pure (wpAny_pure ⟨rfl, h₅⟩)) fun _ _ h' => h'.elim)) fun _ _ h' => h'.elim))

/-- a clause's tests -/
noncomputable def PIf (X : Cx) (ifs : List Expr) (t : TT) : Prop :=
  ∀ (pins : List (Addr × Obj)) (s : Shared) (σ : St) (H : Hp) (Q : Bool → Hp → Prop), Inv X pins σ H s → t σ H Q →
    wpAny (model X.prog X.w) X.A (forIn ifs true fun c r => if r = true then do let ok ← isTrue c X.env (eval c X.env); pure (ForInStep.yield ok) else pure (ForInStep.yield r)) (TP X pins σ Q) X.xe s
noncomputable def tYes : TT := fun _ H Q => Q true H
theorem pif_nil {X : Cx} : PIf X [] tYes := fun pins s σ H Q I h => wpAny_tests_nil ⟨H, I, h⟩
theorem pif_one {X : Cx} {c : Expr} {t : TT} (h : PT X c t) : PIf X [c] t := fun pins s σ H Q I hw => wpAny_tests_one (h pins s σ H Q I hw)

/-- a target stores into the block's own slots alone -/
noncomputable def GK (fm : List (Option Nat)) (g : TG) : Prop := ∀ (x : V) (σ : St) (H : Hp) (Q : St → Hp → Prop), g x σ H Q → g x σ H fun σ' H' => Q σ' H' ∧ ∀ (i j : Nat), fm[i]? = some (some j) → σ'[i]? = σ[i]?
theorem gk_name {fm : List (Option Nat)} {i : Nat} (h : fm[i]? = some none) : GK fm (gName i) := fun x σ H Q q => ⟨q, fun i' j e => by
  by_cases hi : i = i'
  · subst hi; rw [h] at e; cases e
  · exact List.getElem?_set_ne hi⟩
theorem fm_slot {fm : List (Option Nat)} {σ : St} {i : Nat} {v : V} (e : (fmSt fm σ)[i]? = some (some v)) : ∃ j, fm[i]? = some (some j) := by
  unfold fmSt at e
  rw [List.getElem?_map] at e
  cases h : fm[i]? with
  | none => rw [h] at e; cases e
  | some o =>
    cases o with
    | none => rw [h] at e; cases e
    | some j => exact ⟨j, rfl⟩

/-- what a list comprehension asks: W is the word between two turns (turn, measure, the items so far, the heap) -/
noncomputable def tLC (wi : TI) (fm : List (Option Nat)) (g : TG) (tt : TT) (te : TE) : TE := fun σ H Q => wi σ H fun J H1 => ∃ W : Nat → Nat → List V → Hp → Prop, (∃ m, W 0 m [] H1) ∧ ∀ i m ys H, W i m ys H →
  (J.stop i H ∧ ∀ p, H p = none → Q (.ref p) (upd H p (.lst ys))) ∨
  (J.go i H ∧ ys.length < sizeLine ∧ ∃ N : List V → Hp → Prop, (∀ ys' H', N ys' H' → ∃ m', m' < m ∧ W (i + 1) m' ys' H') ∧
    ∀ x H', J.yld i H x H' → g x (fmSt fm σ) H' fun σ2 H2 => tt σ2 H2 fun ok H3 => if ok = true then te σ2 H3 fun v H4 => N (ys ++ [v]) H4 else N ys H3)

section
variable {X : Cx} {pins : List (Addr × Obj)} {σ : St} {sc : Scope} {M : List Str} {fm : List (Option Nat)} {tg iter elt : Expr} {ifs : List Expr} {pos : Pos} {g : TG} {tt : TT} {te : TE}
/-- a block: from the iterator to the list, at the end of its turns -/
theorem comp_core {it : Addr} {fp : List Addr} {tn : Nat → Heap → Prop} {J : It} {H2 : Hp} {s2 : Shared} {E : Value → Shared → Prop} {RR : Value → Addr → Result → Shared → Prop} {Q : VK} (hc : X.calm = true)
    (I2 : Inv X pins σ H2 s2) (T : Turn X.prog X.w X.K tg J fp it tn) (st : tn 0 s2.heap) (hf : ∀ b ∈ fp, FpOk X pins H2 b) (fr : FrOk X.env sc.names) (hk : sc.kind = .function) (hfm : FmOk X.N sc M fm) (hgk : GK fm g)
    (hB : ∀ C fp s H, PG (blk X sc M C fp s H) tg g ∧ PIf (blk X sc M C fp s H) ifs tt ∧ PE (blk X sc M C fp s H) elt te)
    (W : Nat → Nat → List V → Hp → Prop) (hw : ∃ m, W 0 m [] H2)
    (turn : ∀ i m ys H, W i m ys H → (J.stop i H ∧ ∀ p, H p = none → Q (.ref p) (upd H p (.lst ys))) ∨
      (J.go i H ∧ ys.length < sizeLine ∧ ∃ N : List V → Hp → Prop, (∀ ys' H', N ys' H' → ∃ m', m' < m ∧ W (i + 1) m' ys' H') ∧
        ∀ x H', J.yld i H x H' → g x (fmSt fm σ) H' fun σ2 H2 => tt σ2 H2 fun ok H3 => if ok = true then te σ2 H3 fun v H4 => N (ys ++ [v]) H4 else N ys H3))
    (hRR : ∀ D C H' m s', s'.heap.Ns C m → Inv X pins σ H' s' → FpOk X pins H' C → Q (.ref D) H' → RR (.ref D) C (.ok .next) s') :
    wpAny (model X.prog X.w) X.A (newList []) (fun acc s₃ => wpAny (model X.prog X.w) X.A (newFunctionEnv sc X.env.globals (closL X.env sc.names []) [] X.env.qual none .none (some X.env)) (fun cenv s₄ =>
      codeAny (model X.prog X.w) X.A (.compStart (.ListComp elt [⟨tg, iter, ifs, 0⟩] sc pos) 0 (.ref it) acc { cenv with scope := relabel sc X.env }) (RR acc cenv.locals) s₄) E s₃) E s2 := by
  have hl : ∀ b ∈ fp, b < s2.heap.objs.size := fun b hb => by
    obtain ⟨o, e, _⟩ := T.obj _ _ st b hb
    exact Heap.lt_size e
  refine wpAny_newObj_type (wpAny_newFunctionEnv fr.nocell (by intro y hy; simp at hy) (fun h₁ hns₁ hsb₁ => ?_) hk)
  dsimp only at hns₁ hsb₁ ⊢
  generalize hH2 : s2.heap.push { cls := .type "list", dict := none, data := .seq ([] : List Value).toArray } = G2 at hns₁ hsb₁ ⊢
  have hC : G2.objs.size = s2.heap.objs.size + 1 := by rw [← hH2, Heap.size_push]
  have hCle : s2.heap.objs.size ≤ G2.objs.size := by rw [hC]; exact Nat.le_succ _
  have hDC : s2.heap.objs.size ≠ G2.objs.size := by rw [hC]; exact Nat.ne_of_lt (Nat.lt_succ_self _)
  have below : ∀ b, b < s2.heap.objs.size → b ≠ G2.objs.size := fun b hb => Nat.ne_of_lt (Nat.lt_of_lt_of_le hb hCle)
  have old : ∀ b o, s2.heap.get? b = some o → h₁.get? b = some o := fun b o e => hsb₁.extBut b o (below b (Heap.lt_size e)) (Heap.get?_push_of_some _ (hH2 ▸ Heap.get?_push_of_some _ e))
  have hacc : h₁.PlainList s2.heap.objs.size #[] := ⟨_, hsb₁.extBut _ _ hDC (Heap.get?_push_of_some _ (hH2 ▸ Heap.get?_push_size _ rfl))⟩
  have hst₁ : tn 0 h₁ := T.keep _ _ _ st fun b _ o e => old b o e
  obtain ⟨B1, B2, B3⟩ := hB G2.objs.size fp s2 H2
  have hDfs : s2.heap.objs.size ∉ frs X.stack := fun hb => by
    rcases List.mem_cons.mp (I2.stkSub _ hb) with e | e
    · exact absurd I2.lt (by rw [← e]; exact Nat.lt_irrefl _)
    · exact I2.nofs (Nat.le_refl _) e
  have hDf : s2.heap.objs.size ∉ fp := fun hb => Nat.lt_irrefl _ (hl _ hb)
  -- the iterator's records, in the block
  have fpB : ∀ {pl : List (Addr × Obj)} {H' : Hp}, (∀ b ∈ fp, H' b = none) → (∀ p ∈ pl, p.1 ∉ fp) → ∀ b ∈ fp, FpOk (blk X sc M G2.objs.size fp s2 H2) pl H' b := fun {pl H'} hn hp b hb => by
    refine ⟨hn b hb, below b (hl b hb), fun z => ?_, .inl hb, fun x c e => (hf b hb).2.2.2.2.1 x c (closL_sub (fun _ _ z => by cases z) x c e), fun p hp' z => ?_⟩
    · rcases List.mem_cons.mp (I2.stkSub b z) with e | e
      · exact (hf b hb).2.1 e
      · exact (hf b hb).2.2.1 e
    · have hp'' : p ∈ pl := by simpa [blk] using hp'
      exact hp p hp'' (z ▸ hb)
  have loop : ∀ s₃ : Shared, s₃ = { s2 with heap := h₁, toks := s2.toks + ([] : List (Str × Value)).length } →
      codeAny (model X.prog X.w) X.A (.compLoop (.ListComp elt [⟨tg, iter, ifs, 0⟩] sc pos) 0 (.ref it) (.ref s2.heap.objs.size) (compEnvC sc (closL X.env sc.names []) G2.objs.size X.env)) (RR (.ref s2.heap.objs.size) G2.objs.size) s₃ := by
    rintro s₃ rfl
    obtain ⟨m0, w0⟩ := hw
    -- the state between two turns
    refine compLoop_any (fun n s' => ∃ (i : Nat) (ys : List V) (its : List Value) (k : Nat) (H' : Hp), Inv (blk X sc M G2.objs.size fp s2 H2) [(s2.heap.objs.size, { cls := .type "list", data := .seq its.toArray k })] (fmSt fm σ) H' s' ∧ Vals ys its ∧ ys.length ≤ sizeLine ∧
      tn i s'.heap ∧ (∀ b ∈ fp, H' b = none) ∧ W i n ys H') ?_ m0 ?_
    · rintro n s' ⟨i, ys, its, k, H', I', rv, hz, st', fn', w'⟩
      have np : ∀ p ∈ [((s2.heap.objs.size, { cls := .type "list", data := .seq its.toArray k }) : Addr × Obj)], p.1 ∉ fp := fun p hp => by
        rcases List.mem_singleton.mp hp with rfl
        exact hDf
      rcases turn i n ys H' w' with ⟨stop, qn⟩ | ⟨go, hz', N, hN, step⟩
      · refine thn (T.done (blk X sc M G2.objs.size fp s2 H2) rfl rfl rfl hc i _ s' _ H' _ I' (fpB fn' np) st' stop) fun r s4 ⟨hr, I4⟩ => ?_
        subst hr
        -- the end: the list is tracked, the frame's invariant again
        obtain ⟨eD, nD, _, _, _⟩ := I4.pin _ (List.mem_append_right _ List.mem_cons_self)
        obtain ⟨m4, hn4, _⟩ := I4.loc
        have u4 : Un (frs X.stack) fp H2 H' s2.heap s4.heap := I4.base
        have eD' : s4.heap.get? s2.heap.objs.size = some { cls := .type "list", data := .seq its.toArray k } := eD
        have nD' : H' s2.heap.objs.size = none := nD
        have ne : ∀ b, b < s2.heap.objs.size → b ≠ s2.heap.objs.size := fun b hb => Nat.ne_of_lt hb
        have hok : HOk X.prog X.w (upd H' s2.heap.objs.size (.lst ys)) s4.heap := fun b ob e => by
          by_cases hb : b = s2.heap.objs.size
          · subst hb
            rw [upd_same] at e
            cases e
            exact ⟨hz, its, k, rv, eD'⟩
          · rw [upd_ne hb] at e
            exact (I4.hok b ob e).stay (fun _ _ _ q => q) (fun c q => by rw [upd_ne (ne_of_none q nD')]; exact q) fun c xs q => by rw [upd_ne (ne_of_none q nD')]; exact q
        have u5 : Un (frs X.stack) fp H2 (upd H' s2.heap.objs.size (.lst ys)) s2.heap s4.heap :=
          ⟨u4.keep, u4.slot, fun b o e n hx => by rw [upd_ne (ne b (Heap.lt_size e))]; exact u4.free b o e n hx, u4.there,
            fun b xs e => by have := u4.tups b xs e; rw [upd_ne (ne_of_none this nD')]; exact this,
            fun b o u e => by have := u4.frzs b o u e; rw [upd_ne (ne_of_none this nD')]; exact this,
            fun b ps e => by obtain ⟨mo, this⟩ := u4.tbls b ps e; exact ⟨mo, by rw [upd_ne (ne_of_none this nD')]; exact this⟩⟩
        have I5 : Inv X pins σ (upd H' s2.heap.objs.size (.lst ys)) s4 :=
          I2.call' I4.os u5 hok I4.bare fun b hb => ⟨(hf b hb).2.2.2.1, (hf b hb).2.1, (hf b hb).2.2.2.2.1, (hf b hb).2.2.2.2.2⟩
        refine hRR _ _ _ m4 s4 hn4 I5 (I2.fpOk hCle ?_) (qn _ nD')
        rw [upd_ne (Ne.symm hDC)]
        exact I4.free
      · refine thn (T.item (blk X sc M G2.objs.size fp s2 H2) rfl rfl rfl hc i _ s' _ H' _ I' (fpB fn' np) st' go) fun r s4 ⟨u, hr, h4⟩ => ?_
        subst hr
        refine thn h4 fun _ s5 ⟨x, H5, I5, r5, y5, st5, fr5⟩ => ?_
        have I5' := I5.pinned (fpB fr5 np) (T.obj _ _ st5)
        refine thn (B1 _ s5 _ H5 x u _ I5' r5 (hgk _ _ _ _ (step x H5 y5))) fun _ s6 ⟨σ6, H6, I6, q6, k6⟩ => ?_
        refine thn (B2 _ s6 σ6 H6 _ I6 q6) fun ok s7 ⟨H7, I7, q7⟩ => ?_
        have len6 : (fmSt fm σ).length = σ6.length := I'.len.trans I6.len.symm
        have wk : ∀ (j : Nat) (v : V), (fmSt fm σ)[j]? = some (some v) → σ6[j]? = some (some v) := fun j v e => by
          obtain ⟨j', e'⟩ := fm_slot e
          rw [k6 j j' e']
          exact e
        have back : ∀ {σ8 : St} {H8 : Hp} {s8 : Shared}, Inv (blk X sc M G2.objs.size fp s2 H2) ([(s2.heap.objs.size, { cls := .type "list", data := .seq its.toArray k })] ++ pinsAt fp s5.heap) σ8 H8 s8 → tn (i + 1) s8.heap ∧ ∀ b ∈ fp, H8 b = none := fun {σ8 H8 s8} I8 => by
          refine ⟨T.keep _ _ _ st5 fun b hb o e => (I8.pin (b, o) (List.mem_append_right _ (List.mem_append_right _ (mem_pinsAt hb e)))).1, fun b hb => ?_⟩
          obtain ⟨o, e, d⟩ := T.obj _ _ st5 b hb
          exact (I8.pin (b, o) (List.mem_append_right _ (List.mem_append_right _ (mem_pinsAt hb e)))).2.1
        cases ok with
        | false =>
          rw [if_neg Bool.false_ne_true] at q7
          rw [if_neg Bool.false_ne_true]
          obtain ⟨m', hm, w7⟩ := hN ys H7 q7
          exact ⟨m', hm, i + 1, ys, its, k, H7, (I7.weak len6 wk).unpinned, rv, hz, (back I7).1, (back I7).2, w7⟩
        | true =>
          rw [if_pos rfl] at q7
          rw [if_pos rfl]
          refine thn (B3 _ s7 σ6 H7 _ I7 q7) fun y s8 ⟨v, H8, I8, r8, q8⟩ => ?_
          obtain ⟨st8, fr8⟩ := back I8
          obtain ⟨m', hm, w8⟩ := hN _ H8 q8
          obtain ⟨eD, nD, _, _, _⟩ := I8.pin _ (List.mem_append_right _ (List.mem_append_left _ List.mem_cons_self))
          have hits : its.toArray.size = ys.length := by simp [rv.length]
          refine wpAny_list_append_plain (items := its.toArray) ⟨k, eD⟩ (fun h' hpl hsb => ?_) (by rw [hits]; exact hz)
          obtain ⟨k', ek⟩ := hpl
          have ek' : h'.get? s2.heap.objs.size = some { cls := .type "list", data := .seq (its ++ [y]).toArray k' } := by simpa using ek
          have np8 : ∀ p ∈ pinsAt fp s5.heap, p.1 ≠ s2.heap.objs.size := fun p hp z => hDf (z ▸ (of_pinsAt hp).1)
          have I9 : Inv (blk X sc M G2.objs.size fp s2 H2) (pinsAt fp s5.heap) σ6 H8 s8 := I8.pins_of fun p hp => I8.pin p (List.mem_append_right _ (List.mem_append_right _ hp))
          have I10 : Inv (blk X sc M G2.objs.size fp s2 H2) (pinsAt fp s5.heap) σ6 H8 { s8 with heap := h', toks := s8.toks } :=
            I9.turned (it := s2.heap.objs.size) (fun b o hb e => hsb.extBut b o hb e) nD hDC (.inr (Nat.le_refl _)) (fun x c e z => by
              obtain ⟨v', q⟩ := I2.cell x c (closL_sub (fun _ _ z => by cases z) x c e)
              exact absurd (show c < s2.heap.objs.size from q.lt) (by rw [z]; exact Nat.lt_irrefl _)) fun p hp => np8 p (by simpa [blk] using hp)
          have I11 : Inv (blk X sc M G2.objs.size fp s2 H2) [(s2.heap.objs.size, { cls := .type "list", data := .seq (its ++ [y]).toArray k' })] (fmSt fm σ) H8 { s8 with heap := h', toks := s8.toks } :=
            (I10.weak len6 wk).pins_of fun p hp => by
              rcases List.mem_singleton.mp hp with rfl
              exact ⟨ek', nD, hDC, hDfs, fun _ z => nomatch z⟩
          refine ⟨m', hm, i + 1, ys ++ [v], its ++ [y], k', H8, I11, rv.append (.cons r8 .nil), ?_, ?_, fr8, w8⟩
          · rw [List.length_append]; exact hz'
          · exact T.keep _ _ _ st8 fun b hb o e => hsb.extBut b o (fun z => hDf (z ▸ hb)) e
    · obtain ⟨k0, e0⟩ := hacc
      refine ⟨0, [], [], k0, H2, blk_in I2 hf hl hCle fr hk hfm old hns₁ fun p hp => ?_, .nil, Nat.zero_le _, hst₁, fun b hb => (hf b hb).1, w0⟩
      rcases List.mem_singleton.mp hp with rfl
      exact ⟨e0, I2.hok.fresh (Nat.le_refl _), hDC, hDfs, fun _ z => nomatch z⟩
  exact codeAny_compStart_list (loop _ rfl) (T.self _ 0 _ _ _ hst₁ (loop _ rfl))
end
end L2

set_option Elab.async false
set_option linter.all false
set_option maxRecDepth 100000
namespace L2
open PySem PySem.Spec PyProof.Rows
section
variable {X : Cx} {sc : Scope} {M : List Str} {fm : List (Option Nat)} {tg iter elt : Expr} {ifs : List Expr} {pos : Pos} {g : TG} {tt : TT} {te : TE} {wi : TI}
/-- the block's record lets its names go: nothing that is known changes -/
theorem Inv.letGo {pins : List (Addr × Obj)} {σ : St} {H : Hp} {s : Shared} {C : Addr} {h' : Heap} (I : Inv X pins σ H s) (f : FpOk X pins H C) (hs : Heap.SameBut C s.heap h') : Inv X pins σ H { s with heap := h' } :=
  I.turned (t' := s.toks) (it := C) (fun b o hb e => hs.extBut b o hb e) f.1 f.2.1 f.2.2.2.1 f.2.2.2.2.1 f.2.2.2.2.2
theorem pe_lc (hc : X.calm = true) (fr : FrOk X.env sc.names) (hfm : FmOk X.N sc M fm) (hgk : GK fm g) (hk : sc.kind = .function) (hnm : ∀ y ∈ sc.names, y.2 = .local → sc.names.lookup y.1 = some .local) (hi : PI X tg iter wi)
    (hB : ∀ C fp s H, PG (blk X sc M C fp s H) tg g ∧ PIf (blk X sc M C fp s H) ifs tt ∧ PE (blk X sc M C fp s H) elt te) (hs : ∀ x, foldedSetIterable iter X.env x = pure x := by intro _; rfl) :
    PE X (.ListComp elt [⟨tg, iter, ifs, 0⟩] sc pos) (tLC wi fm g tt te) := by
  intro pins s σ H Q I h
  rw [eval_ListComp]
  have hclos := closure_eq (env := X.env) (sc := sc) fun n hn => I.ok.has n (fr.free hn)
  refine wpAny_comprehension_free (use := none) rfl hs hclos hk hnm (thn (hi pins s σ H _ I h) fun v s1 h1 => thn h1 fun itv s2 h2 => ?_)
  obtain ⟨it, fp, tn, J, H2, e, I2, T, st2, f2, W, w0, turn⟩ := h2
  subst e
  refine comp_core (Q := Q) (RR := fun acc C => compPost (model X.prog X.w) X.A X.xe none (EP X pins σ Q) acc C) hc I2 T st2 f2 fr hk hfm hgk hB W w0 turn ?_
  intro D C H' m s' hn I' f' q
  exact ⟨m, hn, fun h' hs' => ⟨.ref D, H', I'.letGo f' hs', rfl, q⟩⟩
/-- x = [..] where the store is exchanged with the block's end -/
theorem ps_set_lc {i : Nat} {x : Str} {px pst : Pos} (hN : X.N.Nodup) (hix : X.N[i]? = some x) (hx : X.env.kindOf x = some .local) (hsw : swapsWith (.ListComp elt [⟨tg, iter, ifs, 0⟩] sc pos) (some (.Name x px)) pst.line X.env = pure true)
    (hc : X.calm = true) (fr : FrOk X.env sc.names) (hfm : FmOk X.N sc M fm) (hgk : GK fm g) (hk : sc.kind = .function) (hnm : ∀ y ∈ sc.names, y.2 = .local → sc.names.lookup y.1 = some .local) (hi : PI X tg iter wi)
    (hB : ∀ C fp s H, PG (blk X sc M C fp s H) tg g ∧ PIf (blk X sc M C fp s H) ifs tt ∧ PE (blk X sc M C fp s H) elt te) (hs : ∀ x, foldedSetIterable iter X.env x = pure x := by intro _; rfl) :
    PS X (.Assign [.Name x px] (.ListComp elt [⟨tg, iter, ifs, 0⟩] sc pos) pst) (tAsg (tLC wi fm g tt te) (gName i)) := by
  intro pins s σ H D I h
  rw [exec_Assign_Name_used _ _ _ _ hsw]
  refine wpAny_bind (wpAny_standAt (wpAny_bind ?_))
  show wpAny _ _ (do let _ ← comprehension (.ListComp elt [⟨tg, iter, ifs, 0⟩] sc pos) sc X.env _ (newList []) false (eval iter X.env) (some (assign (.Name x px) X.env))) _ _ s
  have hclos := closure_eq (env := X.env) (sc := sc) fun n hn => I.ok.has n (fr.free hn)
  refine wpAny_bind (wpAny_mono (wpAny_comprehension_free (use := some (assign (.Name x px) X.env)) (Q := fun _ s' => SP X pins D .next s') rfl hs hclos hk hnm (thn (hi pins s σ H _ I h) fun v s1 h1 => thn h1 fun itv s2 h2 => ?_))
    (fun _ s' hq => wpAny_pure (wpAny_pure hq)) fun _ _ e => e)
  obtain ⟨it, fp, tn, J, H2, e, I2, T, st2, f2, W, w0, turn⟩ := h2
  subst e
  refine comp_core (Q := fun v H' => gName i v σ H' D.nx) (RR := fun acc C => compPost (model X.prog X.w) X.A X.xe (some (assign (.Name x px) X.env)) (fun _ s' => SP X pins D .next s') acc C) hc I2 T st2 f2 fr hk hfm hgk hB W w0 turn ?_
  intro Da C H' m s' hn I' f' q
  show wpAny _ _ (assign (.Name x px) X.env (.ref Da)) _ _ s'
  refine wpAny_assign_Name (store_ok2 (v := .ref Da) I' hN hix (.inl hx) rfl (fun s2 I2' hs2 => ?_) (.inr hx))
  obtain ⟨a, hsb, ha⟩ := hs2
  have hCa : C ≠ a := by
    rcases ha with rfl | ha
    · exact f'.2.1
    · exact (f'.2.2.2.2.1 x a ha).symm
  exact ⟨m, hn.sameBut hsb hCa, fun h' hs' => ⟨_, H', I2'.letGo f' hs', q⟩⟩
end
end L2

set_option Elab.async false
set_option linter.all false
set_option maxRecDepth 100000
namespace L2
open PySem PySem.Spec PyProof.Rows
/-! ### a value as data -/
mutual
inductive Is (H : Hp) : V → PyData → Prop
  | non : Is H .non .none
  | bl (b : Bool) : Is H (.bl b) (.bool b)
  | int (i : Int) : Is H (.int i) (.int i)
  | str (x : Str) : Is H (.str x) (.str x)
  | tup {a : Addr} {xs : List V} {ds : List PyData} : H a = some (.tup xs) → IsAll H xs ds → Is H (.ref a) (.tuple ds)
  | lst {a : Addr} {xs : List V} {ds : List PyData} : Rd H a (.lst xs) → IsAll H xs ds → Is H (.ref a) (.list ds)
inductive IsAll (H : Hp) : List V → List PyData → Prop
  | nil : IsAll H [] []
  | cons {v : V} {d : PyData} {vs : List V} {ds : List PyData} : Is H v d → IsAll H vs ds → IsAll H (v :: vs) (d :: ds)
end
theorem IsAll.length {H : Hp} : ∀ {vs : List V} {ds : List PyData}, IsAll H vs ds → vs.length = ds.length
  | _, _, .nil => rfl
  | _, _, .cons _ t => by simp [t.length]
theorem IsAll.get {H : Hp} : ∀ {vs : List V} {ds : List PyData} {i : Nat} {d : PyData}, IsAll H vs ds → ds[i]? = some d → ∃ v, vs[i]? = some v ∧ Is H v d
  | _, _, _, _, .nil, e => by simp at e
  | _, _, 0, _, .cons h t, e => by simp at e; subst e; exact ⟨_, rfl, h⟩
  | _, _, i + 1, d, .cons h t, e => by
    obtain ⟨v, a, b⟩ := t.get (i := i) (d := d) (by simpa using e)
    exact ⟨v, by simpa using a, b⟩
theorem IsAll.get' {H : Hp} : ∀ {vs : List V} {ds : List PyData} {i : Nat} {v : V}, IsAll H vs ds → vs[i]? = some v → ∃ d, ds[i]? = some d ∧ Is H v d
  | _, _, _, _, .nil, e => by simp at e
  | _, _, 0, _, .cons h t, e => by simp at e; subst e; exact ⟨_, rfl, h⟩
  | _, _, i + 1, d, .cons h t, e => by
    obtain ⟨v, a, b⟩ := t.get' (i := i) (v := d) (by simpa using e)
    exact ⟨v, by simpa using a, b⟩
theorem IsAll.append {H : Hp} : ∀ {vs : List V} {ds : List PyData} {us : List V} {es : List PyData}, IsAll H vs ds → IsAll H us es → IsAll H (vs ++ us) (ds ++ es)
  | _, _, _, _, .nil, s => s
  | _, _, _, _, .cons h t, s => .cons h (t.append s)
theorem IsAll.snoc {H : Hp} {vs : List V} {ds : List PyData} {v : V} {d : PyData} (h : IsAll H vs ds) (q : Is H v d) : IsAll H (vs ++ [v]) (ds ++ [d]) := h.append (.cons q .nil)
theorem IsAll.take {H : Hp} : ∀ {vs : List V} {ds : List PyData} (n : Nat), IsAll H vs ds → IsAll H (vs.take n) (ds.take n)
  | _, _, 0, _ => .nil
  | _, _, _ + 1, .nil => .nil
  | _, _, n + 1, .cons h t => .cons h (t.take n)
theorem IsAll.drop {H : Hp} : ∀ {vs : List V} {ds : List PyData} (n : Nat), IsAll H vs ds → IsAll H (vs.drop n) (ds.drop n)
  | _, _, 0, h => h
  | _, _, _ + 1, .nil => .nil
  | _, _, n + 1, .cons h t => t.drop n
theorem IsAll.ints {H : Hp} : ∀ ns : List Int, IsAll H (ns.map V.int) (ns.map PyData.int)
  | [] => .nil
  | n :: ns => .cons (.int n) (IsAll.ints ns)
theorem IsAll.of_ints {H : Hp} : ∀ {vs : List V} {ns : List Int}, IsAll H vs (ns.map PyData.int) → vs = ns.map V.int
  | _, [], h => by cases h; rfl
  | _, n :: ns, h => by
    rw [List.map_cons] at h
    cases h with
    | cons h1 t =>
    cases h1
    rw [List.map_cons, t.of_ints]
mutual
theorem Is.mono {H H' : Hp} (ht : ∀ a xs, H a = some (.tup xs) → H' a = some (.tup xs)) (hl : ∀ a xs, Rd H a (.lst xs) → Rd H' a (.lst xs)) : ∀ {v : V} {d : PyData}, Is H v d → Is H' v d
  | _, _, .non => .non
  | _, _, .bl b => .bl b
  | _, _, .int i => .int i
  | _, _, .str x => .str x
  | _, _, .tup e h => .tup (ht _ _ e) (IsAll.mono ht hl h)
  | _, _, .lst e h => .lst (hl _ _ e) (IsAll.mono ht hl h)
theorem IsAll.mono {H H' : Hp} (ht : ∀ a xs, H a = some (.tup xs) → H' a = some (.tup xs)) (hl : ∀ a xs, Rd H a (.lst xs) → Rd H' a (.lst xs)) : ∀ {vs : List V} {ds : List PyData}, IsAll H vs ds → IsAll H' vs ds
  | _, _, .nil => .nil
  | _, _, .cons h t => .cons (Is.mono ht hl h) (IsAll.mono ht hl t)
end
/-! no list within -/
mutual
noncomputable def noL : PyData → Bool
  | .none | .bool _ | .int _ | .str _ => true
  | .tuple xs => noLs xs
  | .list _ | .dict _ => false
noncomputable def noLs : List PyData → Bool
  | [] => true
  | x :: xs => noL x && noLs xs
end
mutual
theorem Is.tmono {H H' : Hp} (ht : ∀ a xs, H a = some (.tup xs) → H' a = some (.tup xs)) : ∀ {v : V} {d : PyData}, noL d = true → Is H v d → Is H' v d
  | _, _, _, .non => .non
  | _, _, _, .bl b => .bl b
  | _, _, _, .int i => .int i
  | _, _, _, .str x => .str x
  | _, _, n, .tup e h => .tup (ht _ _ e) (IsAll.tmono ht (by simpa [noL] using n) h)
  | _, _, n, .lst e h => by simp [noL] at n
theorem IsAll.tmono {H H' : Hp} (ht : ∀ a xs, H a = some (.tup xs) → H' a = some (.tup xs)) : ∀ {vs : List V} {ds : List PyData}, noLs ds = true → IsAll H vs ds → IsAll H' vs ds
  | _, _, _, .nil => .nil
  | _, _, n, .cons h t => by
    rw [noLs, Bool.and_eq_true] at n
    exact .cons (Is.tmono ht n.1 h) (IsAll.tmono ht n.2 t)
end
theorem Same.rd {H H' : Hp} (e : Same H H') {a : Addr} {u : HO} (h : Rd H a u) : Rd H' a u := by
  rcases h with h | ⟨o, h⟩
  · exact .inl (e _ _ h)
  · exact .inr ⟨o, e _ _ h⟩
theorem Is.same {H H' : Hp} (e : Same H H') {v : V} {d : PyData} (h : Is H v d) : Is H' v d := h.mono (fun _ _ q => e _ _ q) fun _ _ q => e.rd q
theorem IsAll.same {H H' : Hp} (e : Same H H') {v : List V} {d : List PyData} (h : IsAll H v d) : IsAll H' v d := h.mono (fun _ _ q => e _ _ q) fun _ _ q => e.rd q
section
variable {X : Cx} {pins : List (Addr × Obj)} {σ : St} {H : Hp} {s : Shared}
mutual
theorem Is.reads (I : Inv X pins σ H s) : ∀ {v : V} {d : PyData} {u : Value}, Is H v d → RelV v u → ∃ as, Reads s.heap u d as
  | _, _, _, .non, r => by cases (show _ = Value.none from r); exact ⟨_, .none⟩
  | _, _, _, .bl b, r => by cases (show _ = Value.bool b from r); exact ⟨_, .bool b⟩
  | _, _, _, .int i, r => by obtain ⟨t, rfl⟩ := r; exact ⟨_, .int i t⟩
  | _, _, _, .str x, r => by obtain ⟨t, rfl⟩ := r; exact ⟨_, .str x t⟩
  | _, _, _, .tup (a := a) e h, r => by
    cases (show _ = Value.ref a from r)
    obtain ⟨its, rv, ⟨o, h1, h2, n, h3⟩, _⟩ := I.tuple (SqT.of e)
    obtain ⟨as, ra⟩ := IsAll.reads I h rv
    exact ⟨_, .tuple h1 h2 h3 (by simpa using ra)⟩
  | _, _, _, .lst (a := a) e h, r => by
    cases (show _ = Value.ref a from r)
    obtain ⟨its, rv, ⟨o, n, h1, h2, _, h3⟩, _⟩ := I.list (.inl e)
    obtain ⟨as, ra⟩ := IsAll.reads I h rv
    exact ⟨_, .list h1 h2 h3 (by simpa using ra)⟩
theorem IsAll.reads (I : Inv X pins σ H s) : ∀ {vs : List V} {ds : List PyData} {us : List Value}, IsAll H vs ds → Vals vs us → ∃ as, ReadsAll s.heap us ds as
  | _, _, _, .nil, .nil => ⟨_, .nil⟩
  | _, _, _, .cons h t, .cons r q => by
    obtain ⟨as, ra⟩ := Is.reads I h r
    obtain ⟨bs, rb⟩ := IsAll.reads I t q
    exact ⟨_, .cons ra rb⟩
end
end
/-! ### ==, !=, in, not in -/
/-- fit for a comparison -/
noncomputable def okD (d : PyData) : Prop := d.canLay0 = true ∧ d.depth ≤ 40
noncomputable def okDs (ds : List PyData) : Prop := PyData.canLayAll0 ds = true ∧ PyData.depthAll ds ≤ 40
section
variable {X : Cx}
noncomputable def rEqD (neg : Bool) : R2 := fun x y H Q => ∃ d e, Is H x d ∧ Is H y e ∧ okD d ∧ okD e ∧ Q (.bl (if neg then !PyData.eqv d e else PyData.eqv d e)) H
theorem op_eqD (hu : X.A.units + 64 < cLine) : OpR X (compareOp .Eq) (rEqD false) := by
  intro pins s σ H x y v u Q I rx ry h
  obtain ⟨d, e, hx, hy, od, oe, q⟩ := h
  obtain ⟨as, ra⟩ := hx.reads I rx
  obtain ⟨bs, rb⟩ := hy.reads I ry
  exact SeqAt.compareEq_reads ra rb od.1 oe.1 (by have := od.2; omega) ⟨.bl _, H, I, rfl, q⟩
theorem op_neD (hu : X.A.units + 64 < cLine) : OpR X (compareOp .NotEq) (rEqD true) := by
  intro pins s σ H x y v u Q I rx ry h
  obtain ⟨d, e, hx, hy, od, oe, q⟩ := h
  obtain ⟨as, ra⟩ := hx.reads I rx
  obtain ⟨bs, rb⟩ := hy.reads I ry
  exact SeqAt.compareNe_reads ra rb od.1 oe.1 (by have := od.2; omega) ⟨.bl _, H, I, rfl, q⟩
noncomputable def inD (d : PyData) (ds : List PyData) : Bool := ds.any fun y => PyData.eqv y d
noncomputable def rInD (neg : Bool) : R2 := fun x y H Q => ∃ d ds, Is H x d ∧ (Is H y (.tuple ds) ∨ Is H y (.list ds)) ∧ okD d ∧ okDs ds ∧ Q (.bl (if neg then !inD d ds else inD d ds)) H
theorem op_inD (hu : X.A.units + 64 < cLine) : OpR X (compareOp .In) (rInD false) := by
  intro pins s σ H x y v u Q I rx ry h
  obtain ⟨d, ds, hx, hy, od, oe, q⟩ := h
  obtain ⟨as, ra⟩ := hx.reads I rx
  rcases hy with hy | hy
  · obtain ⟨bs, rb⟩ := hy.reads I ry
    exact SeqAt.in_tuple_reads rb ra oe.1 od.1 (by have := od.2; omega) ⟨.bl _, H, I, rfl, q⟩
  · obtain ⟨bs, rb⟩ := hy.reads I ry
    exact SeqAt.in_list_reads rb ra oe.1 od.1 (by have := od.2; omega) ⟨.bl _, H, I, rfl, q⟩
theorem op_notInD (hu : X.A.units + 64 < cLine) : OpR X (compareOp .NotIn) (rInD true) := by
  intro pins s σ H x y v u Q I rx ry h
  obtain ⟨d, ds, hx, hy, od, oe, q⟩ := h
  obtain ⟨as, ra⟩ := hx.reads I rx
  rcases hy with hy | hy
  · obtain ⟨bs, rb⟩ := hy.reads I ry
    exact SeqAt.notIn_tuple_reads rb ra oe.1 od.1 (by have := od.2; omega) ⟨.bl _, H, I, rfl, q⟩
  · obtain ⟨bs, rb⟩ := hy.reads I ry
    exact SeqAt.notIn_list_reads rb ra oe.1 od.1 (by have := od.2; omega) ⟨.bl _, H, I, rfl, q⟩
end
/-! ### isinstance -/
noncomputable def tyD : PyData → String
  | .none => "NoneType"
  | .bool _ => "bool"
  | .int _ => "int"
  | .str _ => "str"
  | .list _ => "list"
  | .tuple _ => "tuple"
  | .dict _ => "dict"
theorem Is.ty {K : PySem.W.Frag} {H : Hp} {v : V} {d : PyData} (h : Is H v d) : TyOf K H v (.type (tyD d)) := by
  cases h with
  | non => exact .non
  | bl b => exact .bl b
  | int i => exact .int i
  | str x => exact .str x
  | tup e _ => exact .tup e
  | lst e _ =>
    rcases e with e | ⟨o, e⟩
    · exact .lst e
    · exact .frz e
noncomputable def isTy (T : String) (d : PyData) : Bool := tyD d == T || (T == "int" && tyD d == "bool")
theorem kit_bool {K : PySem.W.Frag} (d : PyData) : PySem.W.kitOne K (.type (tyD d)) (.type "bool") = some (isTy "bool" d) := by cases d <;> with_unfolding_all rfl
theorem kit_int {K : PySem.W.Frag} (d : PyData) : PySem.W.kitOne K (.type (tyD d)) (.type "int") = some (isTy "int" d) := by cases d <;> with_unfolding_all rfl
theorem kit_tuple {K : PySem.W.Frag} (d : PyData) : PySem.W.kitOne K (.type (tyD d)) (.type "tuple") = some (isTy "tuple" d) := by cases d <;> with_unfolding_all rfl
theorem kit_list {K : PySem.W.Frag} (d : PyData) : PySem.W.kitOne K (.type (tyD d)) (.type "list") = some (isTy "list" d) := by cases d <;> with_unfolding_all rfl
theorem kit_str {K : PySem.W.Frag} (d : PyData) : PySem.W.kitOne K (.type (tyD d)) (.type "str") = some (isTy "str" d) := by cases d <;> with_unfolding_all rfl
theorem kit_dict {K : PySem.W.Frag} (d : PyData) : PySem.W.kitOne K (.type (tyD d)) (.type "dict") = some (isTy "dict" d) := by cases d <;> with_unfolding_all rfl
section
variable {X : Cx}
theorem call_isinst : CallR X (.builtin "isinstance") (fun xs H Q => ∃ x T d, xs = [x, .ty T] ∧ T ∈ (["bool", "int", "tuple", "list", "str", "dict"] : List String) ∧ Is H x d ∧ Q (.bl (isTy T d)) H) := by
  intro pins s σ H xs us Q I r h
  obtain ⟨x, T, d, rfl, hT, hx, q⟩ := h
  obtain ⟨u, v, rfl, rx, ry⟩ := Vals.two r
  cases (show v = Value.type T from ry)
  have fin : ∀ {b : Bool}, PySem.W.kitOne X.K (.type (tyD d)) (.type T) = some b → b = isTy T d → wpAny (model X.prog X.w) X.A (call (.builtin "isinstance") [u, .type T]) (EP X pins σ Q) X.xe s := fun {b} e eb => by
    subst eb
    exact isinst_ok I rx hx.ty e fun tk => ⟨.bl _, H, I.tok tk, rfl, q⟩
  simp only [List.mem_cons, List.not_mem_nil, or_false] at hT
  rcases hT with rfl | rfl | rfl | rfl | rfl | rfl
  · exact fin (kit_bool d) rfl
  · exact fin (kit_int d) rfl
  · exact fin (kit_tuple d) rfl
  · exact fin (kit_list d) rfl
  · exact fin (kit_str d) rfl
  · exact fin (kit_dict d) rfl
end
end L2

set_option Elab.async false
set_option linter.all false
set_option maxRecDepth 100000
set_option maxHeartbeats 1000000
namespace L2
open PySem PySem.Spec PyProof.Rows
/-! ### the sort's own tree, where the answers are a strict order -/
noncomputable def Run {α : Type} (lt : Nat → Nat → Bool) (n : Nat) : PySem.W.KasT α → (α → Prop) → Prop
  | .ret a, Q => Q a
  | .ask i j k, Q => i < n ∧ j < n ∧ Run lt n (k (lt i j)) Q
section
variable {lt : Nat → Nat → Bool} {n : Nat}
theorem Run.mono {α : Type} {Q Q' : α → Prop} (h : ∀ a, Q a → Q' a) : ∀ {t : PySem.W.KasT α}, Run lt n t Q → Run lt n t Q'
  | .ret a, q => h a q
  | .ask i j k, ⟨a, b, q⟩ => ⟨a, b, Run.mono h q⟩
theorem Run.bind {α β : Type} {f : α → PySem.W.KasT β} {Q : β → Prop} : ∀ {t : PySem.W.KasT α}, Run lt n t (fun a => Run lt n (f a) Q) → Run lt n (t.bind f) Q
  | .ret a, q => q
  | .ask i j k, ⟨a, b, q⟩ => ⟨a, b, Run.bind q⟩
theorem Run.wp {α : Type} {cmp : Nat → Nat → (Bool → Shared → Prop) → Shared → Prop} {Q : α → Prop} {R : α → Shared → Prop} {s : Shared} (hc : ∀ i j C, i < n → j < n → C (lt i j) s → cmp i j C s) (hR : ∀ a, Q a → R a s) :
    ∀ {t : PySem.W.KasT α}, Run lt n t Q → t.kasWp cmp R s
  | .ret a, q => hR a q
  | .ask i j k, ⟨a, b, q⟩ => hc i j _ a b (Run.wp hc hR q)
/-- a strict order of the first n -/
structure Str1 (lt : Nat → Nat → Bool) (n : Nat) : Prop where
  tr : ∀ i j k, i < n → j < n → k < n → lt i j = true → lt j k = true → lt i k = true
  tot : ∀ i j, i < n → j < n → i ≠ j → lt i j = false → lt j i = true
  irr : ∀ i j, i < n → j < n → lt i j = true → lt j i = false
/-- places of the first n, each once -/
structure Plc (n : Nat) (p : Array Nat) : Prop where
  sz : p.size = n
  lt : ∀ i, i < n → p.getD i 0 < n
  ne : ∀ i j, i < n → j < n → i ≠ j → p.getD i 0 ≠ p.getD j 0
  pm : p.toList.Perm (List.range n)
noncomputable def Up (lt : Nat → Nat → Bool) (p : Array Nat) (k : Nat) : Prop := ∀ i j, i < j → j < k → lt (p.getD i 0) (p.getD j 0) = true
noncomputable def Dn (lt : Nat → Nat → Bool) (p : Array Nat) (k : Nat) : Prop := ∀ i j, i < j → j < k → lt (p.getD j 0) (p.getD i 0) = true
variable (S : Str1 lt n)
include S
theorem up_next {p : Array Nat} {k : Nat} (P : Plc n p) (h1 : 1 ≤ k) (hk : k < n) (u : Up lt p k) (h : lt (p.getD (k - 1) 0) (p.getD k 0) = true) : Up lt p (k + 1) := fun i j hij hj => by
  by_cases e : j = k
  · subst e
    by_cases e2 : i = j - 1
    · subst e2; exact h
    · exact S.tr _ _ _ (P.lt _ (by omega)) (P.lt _ (by omega)) (P.lt _ (by omega)) (u i (j - 1) (by omega) (by omega)) h
  · exact u i j hij (by omega)
theorem dn_next {p : Array Nat} {k : Nat} (P : Plc n p) (h1 : 1 ≤ k) (hk : k < n) (u : Dn lt p k) (h : lt (p.getD k 0) (p.getD (k - 1) 0) = true) : Dn lt p (k + 1) := fun i j hij hj => by
  by_cases e : j = k
  · subst e
    by_cases e2 : i = j - 1
    · subst e2; exact h
    · exact S.tr _ _ _ (P.lt _ (by omega)) (P.lt _ (by omega)) (P.lt _ (by omega)) h (u i (j - 1) (by omega) (by omega))
  · exact u i j hij (by omega)
theorem run_asc {p : Array Nat} (P : Plc n p) : ∀ (f k : Nat), 1 ≤ k → k + f ≤ n → Up lt p k → Run lt n (PySem.W.kas_asc p f k) fun r => k ≤ r ∧ r ≤ k + f ∧ Up lt p r ∧ (r < k + f → lt (p.getD r 0) (p.getD (r - 1) 0) = true)
  | 0, k, _, _, u => ⟨Nat.le_refl _, Nat.le_refl _, u, fun h => absurd h (Nat.lt_irrefl _)⟩
  | f + 1, k, h1, hn, u => by
    refine ⟨P.lt _ (by omega), P.lt _ (by omega), ?_⟩
    cases c : lt (p.getD k 0) (p.getD (k - 1) 0) with
    | true => exact ⟨Nat.le_refl _, by omega, u, fun _ => c⟩
    | false =>
      have c' := S.tot _ _ (P.lt _ (by omega)) (P.lt _ (by omega)) (P.ne k (k - 1) (by omega) (by omega) (by omega)) c
      exact (run_asc P f (k + 1) (by omega) (by omega) (up_next S P h1 (by omega) u c')).mono fun r ⟨a, b, c, d⟩ => ⟨by omega, by omega, c, fun h => d (by omega)⟩
theorem run_desc {p : Array Nat} (P : Plc n p) : ∀ (f k : Nat), 1 ≤ k → k + f ≤ n → Dn lt p k → Run lt n (PySem.W.kas_desc f p k 0) fun r => r.1 = p ∧ r.2.2 = 0 ∧ k ≤ r.2.1 ∧ r.2.1 ≤ k + f ∧ Dn lt p r.2.1
  | 0, k, _, _, u => ⟨rfl, rfl, Nat.le_refl _, Nat.le_refl _, u⟩
  | f + 1, k, h1, hn, u => by
    refine ⟨P.lt _ (by omega), P.lt _ (by omega), ?_⟩
    cases c : lt (p.getD k 0) (p.getD (k - 1) 0) with
    | true =>
      show Run lt n (if (0 : Nat) > 0 then PySem.W.kas_desc f (PySem.W.kas_rev p (k - (0 + 1)) k) (k + 1) 0 else PySem.W.kas_desc f p (k + 1) 0) _
      rw [if_neg (Nat.lt_irrefl 0)]
      exact (run_desc P f (k + 1) (by omega) (by omega) (dn_next S P h1 (by omega) u c)).mono fun r ⟨a, b, c, d, e⟩ => ⟨a, b, by omega, by omega, e⟩
    | false =>
      have c' := S.tot _ _ (P.lt _ (by omega)) (P.lt _ (by omega)) (P.ne k (k - 1) (by omega) (by omega) (by omega)) c
      refine ⟨P.lt _ (by omega), P.lt _ (by omega), ?_⟩
      rw [c']
      exact ⟨rfl, rfl, Nat.le_refl _, Nat.le_add_right _ _, u⟩
omit S in
theorem getD_rev {p : Array Nat} {k : Nat} (hk : k ≤ p.size) (i : Nat) : (PySem.W.kas_rev p 0 k).getD i 0 = if i < k then p.getD (k - 1 - i) 0 else p.getD i 0 := by
  have e : ∀ (q : Array Nat) (i : Nat), q.getD i 0 = (q[i]?).getD 0 := fun q i => by
    by_cases h : i < q.size
    · simp [Array.getD, h]
    · simp [Array.getD, h]
  rw [e, e, e]
  unfold PySem.W.kas_rev
  rw [getElem?_mirror hk _ (by omega)]
  by_cases h : i < k
  · rw [if_pos h]
    by_cases h2 : (0 ≤ i ∧ i < 0 + (k - 0) / 2) ∨ (k - (k - 0) / 2 ≤ i ∧ i < k)
    · rw [if_pos h2]
      congr 2
      omega
    · rw [if_neg h2]
      have : k - 1 - i = i := by omega
      rw [this]
  · rw [if_neg h, if_neg (by omega)]
omit S in
theorem rev_plc {p : Array Nat} (P : Plc n p) {k : Nat} (hk : k ≤ n) : Plc n (PySem.W.kas_rev p 0 k) where
  sz := (mirror_size _ _ _ _).trans P.sz
  lt := fun i hi => by
    rw [getD_rev (by rw [P.sz]; exact hk)]
    split
    · exact P.lt _ (by omega)
    · exact P.lt _ hi
  ne := fun i j hi hj hne => by
    rw [getD_rev (by rw [P.sz]; exact hk), getD_rev (by rw [P.sz]; exact hk)]
    split <;> split <;> exact P.ne _ _ (by omega) (by omega) (by omega)
  pm := (Array.perm_iff_toList_perm.mp (mirror_perm _ _ _ _)).trans P.pm
omit S in
theorem rev_up {p : Array Nat} (P : Plc n p) {k : Nat} (hk : k ≤ n) (d : Dn lt p k) : Up lt (PySem.W.kas_rev p 0 k) k := fun i j hij hj => by
  rw [getD_rev (by rw [P.sz]; exact hk), getD_rev (by rw [P.sz]; exact hk), if_pos (by omega), if_pos hj]
  exact d _ _ (by omega) (by omega)
theorem run_tail3 {p : Array Nat} (P : Plc n p) {k : Nat} (h1 : 1 ≤ k) (hk : k ≤ n) (d : Dn lt p k) : Run lt n (PySem.W.kas_tail3 k n p) fun r => 1 ≤ r.1 ∧ r.1 ≤ n ∧ Plc n r.2 ∧ Up lt r.2 r.1 := by
  unfold PySem.W.kas_tail3
  refine Run.bind ((run_asc S (rev_plc P hk) (n - k) k h1 (by omega) (rev_up P hk d)).mono fun r ⟨a, b, c, _⟩ => ?_)
  exact ⟨by omega, by omega, rev_plc P hk, c⟩
theorem run_count {p : Array Nat} (P : Plc n p) (h1 : 1 ≤ n) : Run lt n (PySem.W.kas_count n p) fun r => 1 ≤ r.1 ∧ r.1 ≤ n ∧ Plc n r.2 ∧ Up lt r.2 r.1 := by
  unfold PySem.W.kas_count
  refine Run.bind ((run_asc S P (n - 1) 1 (Nat.le_refl _) (by omega) (fun i j hij hj => by omega)).mono fun r ⟨a, b, u, c⟩ => ?_)
  by_cases hr : (r == n) = true
  · rw [if_pos hr]
    exact ⟨a, by omega, P, u⟩
  · rw [if_neg hr]
    have hr' : r ≠ n := by simpa using hr
    by_cases h2 : r > 1
    · rw [if_pos h2]
      refine ⟨P.lt _ (by omega), P.lt _ (by omega), ?_⟩
      rw [u 0 (r - 1) (by omega) (by omega)]
      exact ⟨a, by omega, P, u⟩
    · rw [if_neg h2]
      have er : r = 1 := by omega
      subst er
      unfold PySem.W.kas_descPart
      have c0 := c (by omega)
      have d2 : Dn lt p 2 := fun i j hij hj => by
        have ei : i = 0 := by omega
        have ej : j = 1 := by omega
        subst ei ej
        exact c0
      refine Run.bind ((run_desc S P (n - (1 + 1)) (1 + 1) (by omega) (by omega) d2).mono fun q ⟨e1, e2, e3, e4, e5⟩ => ?_)
      rw [e2, if_neg (Nat.lt_irrefl 0), e1]
      exact run_tail3 S P (by omega) (by omega) e5
theorem run_place {p : Array Nat} (P : Plc n p) {k : Nat} (hk : k < n) : ∀ (f l r : Nat), r ≤ l + f → l ≤ r → r ≤ k → (∀ i, i < l → lt (p.getD i 0) (p.getD k 0) = true) → (∀ i, r ≤ i → i < k → lt (p.getD k 0) (p.getD i 0) = true) → Up lt p k →
    Run lt n (PySem.W.kas_place p k f l r) fun x => x ≤ k ∧ (∀ i, i < x → lt (p.getD i 0) (p.getD k 0) = true) ∧ (∀ i, x ≤ i → i < k → lt (p.getD k 0) (p.getD i 0) = true)
  | 0, l, r, h1, h2, h3, hl, hr, _ => by
    have e : l = r := by omega
    subst e
    exact ⟨h3, hl, hr⟩
  | f + 1, l, r, h1, h2, h3, hl, hr, u => by
    unfold PySem.W.kas_place
    by_cases h : l ≥ r
    · rw [if_pos h]
      have e : l = r := by omega
      subst e
      exact ⟨h3, hl, hr⟩
    · rw [if_neg h]
      refine ⟨P.lt _ (by omega), P.lt _ (by omega), ?_⟩
      cases c : lt (p.getD k 0) (p.getD ((l + r) / 2) 0) with
      | true =>
        refine run_place P hk f l ((l + r) / 2) (by omega) (by omega) (by omega) hl (fun i hi1 hi2 => ?_) u
        by_cases e : i = (l + r) / 2
        · subst e; exact c
        · exact S.tr _ _ _ (P.lt _ (by omega)) (P.lt _ (by omega)) (P.lt _ (by omega)) c (u _ _ (by omega) (by omega))
      | false =>
        have c' := S.tot _ _ (P.lt _ (by omega)) (P.lt _ (by omega)) (P.ne k ((l + r) / 2) (by omega) (by omega) (by omega)) c
        refine run_place P hk f ((l + r) / 2 + 1) r (by omega) (by omega) h3 (fun i hi => ?_) hr u
        by_cases e : i = (l + r) / 2
        · subst e; exact c'
        · exact S.tr _ _ _ (P.lt _ (by omega)) (P.lt _ (by omega)) (P.lt _ (by omega)) (u _ _ (by omega) (by omega)) c'
omit S in
theorem getD_bubble {p : Array Nat} {k d : Nat} (hk : k < p.size) (hd : d ≤ k) (i : Nat) : (bubble p k d).getD i 0 = if i = k - d then p.getD k 0 else if k - d < i ∧ i ≤ k then p.getD (i - 1) 0 else p.getD i 0 := by
  have e : ∀ (q : Array Nat) (i : Nat), q.getD i 0 = (q[i]?).getD 0 := fun q i => by
    by_cases h : i < q.size
    · simp [Array.getD, h]
    · simp [Array.getD, h]
  rw [e, e, e, e, getElem?_bubble hk d hd]
  split
  · rfl
  · split <;> rfl
omit S in
theorem bubble_plc {p : Array Nat} (P : Plc n p) {k d : Nat} (hk : k < n) (hd : d ≤ k) : Plc n (bubble p k d) where
  sz := (bubble_size _ _ _).trans P.sz
  lt := fun i hi => by
    rw [getD_bubble (by rw [P.sz]; exact hk) hd]
    split
    · exact P.lt _ hk
    · split
      · exact P.lt _ (by omega)
      · exact P.lt _ hi
  ne := fun i j hi hj hne => by
    rw [getD_bubble (by rw [P.sz]; exact hk) hd, getD_bubble (by rw [P.sz]; exact hk) hd]
    split <;> split <;> first | (split <;> first | exact P.ne _ _ (by omega) (by omega) (by omega) | (split <;> exact P.ne _ _ (by omega) (by omega) (by omega))) | exact P.ne _ _ (by omega) (by omega) (by omega) | omega
  pm := (Array.perm_iff_toList_perm.mp (bubble_perm _ _ _)).trans P.pm
theorem run_bin : ∀ (f : Nat) (p : Array Nat) (k : Nat), Plc n p → k + f = n → 1 ≤ k → Up lt p k → Run lt n (PySem.W.kas_bin f p k) fun q => Plc n q ∧ Up lt q n
  | 0, p, k, P, e, _, u => by
    have e' : k = n := by omega
    subst e'
    exact ⟨P, u⟩
  | f + 1, p, k, P, e, h1, u => by
    unfold PySem.W.kas_bin
    refine Run.bind ((run_place S P (by omega : k < n) k 0 k (by omega) (by omega) (Nat.le_refl _) (fun i hi => by omega) (fun i h1 h2 => by omega) u).mono fun l ⟨hl, ha, hb⟩ => ?_)
    have hp : k < p.size := by rw [P.sz]; omega
    refine run_bin f _ (k + 1) (bubble_plc P (by omega) (by omega)) (by omega) (by omega) fun i j hij hj => ?_
    rw [getD_bubble hp (by omega), getD_bubble hp (by omega)]
    have el : k - (k - l) = l := by omega
    rw [el]
    by_cases hi : i = l
    · rw [if_pos hi]
      rw [if_neg (by omega : ¬ j = l), if_pos (by omega)]
      exact hb _ (by omega) (by omega)
    · rw [if_neg hi]
      by_cases hj' : j = l
      · rw [if_pos hj', if_neg (by omega)]
        exact ha _ (by omega)
      · rw [if_neg hj']
        by_cases c1 : l < i ∧ i ≤ k
        · rw [if_pos c1, if_pos (by omega)]
          exact u _ _ (by omega) (by omega)
        · rw [if_neg c1]
          by_cases c2 : l < j ∧ j ≤ k
          · rw [if_pos c2]
            exact u _ _ (by omega) (by omega)
          · rw [if_neg c2]
            exact u _ _ (by omega) (by omega)
theorem run_sort (h1 : 1 ≤ n) : Run lt n (PySem.W.kas_sort n) fun q => Plc n q ∧ Up lt q n := by
  unfold PySem.W.kas_sort
  have P0 : Plc n (List.toArray (List.range n)) := by
    have e : ∀ i, i < n → (List.toArray (List.range n)).getD i 0 = i := fun i hi => by simp [Array.getD, hi]
    exact ⟨by simp, fun i hi => by rw [e i hi]; exact hi, fun i j hi hj hne => by rw [e i hi, e j hj]; exact hne, List.Perm.refl _⟩
  refine Run.bind ((run_count S P0 h1).mono fun r ⟨a, b, P, u⟩ => ?_)
  by_cases h : r.1 < n
  · rw [if_pos h]
    have em : max r.1 1 = r.1 := by omega
    rw [em]
    exact run_bin S _ _ _ P (by omega) a u
  · rw [if_neg h]
    have e : r.1 = n := by omega
    rw [e] at u
    exact ⟨P, u⟩
end
end L2

set_option Elab.async false
set_option linter.all false
set_option maxRecDepth 100000
set_option maxHeartbeats 1000000
namespace L2
open PySem PySem.Spec PyProof.Rows
theorem ns_one {h : Heap} {a : Addr} {m m' : Str → Option Value} (x : h.Ns a m) (y : h.Ns a m') : m = m' := by
  obtain ⟨o, es, ep, e, d, _, f⟩ := x
  obtain ⟨o', es', ep', e', d', _, f'⟩ := y
  rw [e] at e'; cases e'
  rw [d] at d'; cases d'
  funext z
  rw [← f z, ← f' z]
theorem ObjOk.there {P : Program} {w : World} {H : Hp} {h : Heap} {a : Addr} {o : HO} (x : ObjOk P w H h a o) : ∃ u, h.get? a = some u := by
  cases o with
  | lst xs => obtain ⟨_, _, _, _, e⟩ := x; exact ⟨_, e⟩
  | tup xs => obtain ⟨_, _, _, _, o, e, _⟩ := x; exact ⟨_, e⟩
  | dK kvs => obtain ⟨_, _, _, _, o, _, _, e, _⟩ := x; exact ⟨_, e⟩
  | dT kvs => obtain ⟨_, _, _, _, o, _, _, e, _⟩ := x; exact ⟨_, e⟩
  | set S n => obtain ⟨o, _, _, _, e, _⟩ := x; exact ⟨_, e⟩
  | ins C dx fs => obtain ⟨_, _, _, e, _⟩ := x; exact ⟨_, e⟩
  | own y => obtain ⟨_, e⟩ := x; exact ⟨_, e⟩
  | xd fs => obtain ⟨_, ⟨_, _, _, e, _⟩, _⟩ := x; exact ⟨_, e⟩
  | rng lo hi => obtain ⟨_, _, _, e⟩ := x; exact ⟨_, e⟩
  | frz ob u => obtain ⟨e, _⟩ := x; exact ⟨_, e⟩
  | tbl ps => exact ⟨_, show h.get? a = some _ from x⟩
  | met f y => exact ⟨_, show h.get? a = some _ from x⟩
  | ext φ => obtain ⟨_, ⟨_, e⟩, _⟩ := x; exact ⟨_, e⟩
section
variable {X : Cx} {pins : List (Addr × Obj)} {σ : St} {H : Hp} {s : Shared}
theorem Inv.none_of (I : Inv X pins σ H s) {a : Addr} (h : s.heap.get? a = none) : H a = none := by
  cases q : H a with
  | none => rfl
  | some o =>
    obtain ⟨u, e⟩ := (I.hok a o q).there
    rw [h] at e; cases e
/-- all objects but the frame are kept, the frame's map too; a new list is tracked -/
theorem Inv.laidBut {a : Addr} {xs : List V} {its : List Value} {n t' : Nat} {h' : Heap} {m : Str → Option Value} (I : Inv X pins σ H s) (k : ∀ b u, b ≠ X.env.locals → s.heap.get? b = some u → h'.get? b = some u) (hm : s.heap.Ns X.env.locals m) (hm' : h'.Ns X.env.locals m)
    (hp : s.heap.get? a = none) (rv : Vals xs its) (hz : xs.length ≤ sizeLine) (ho : h'.get? a = some { cls := .type "list", data := .seq its.toArray n }) : Inv X pins σ (upd H a (.lst xs)) { s with heap := h', toks := t' } := by
  have hn : H a = none := I.none_of hp
  have neL : ∀ b u, H b = some u → b ≠ X.env.locals := fun b u e z => by rw [z, I.free] at e; cases e
  refine I.step (g' := s.gens) (d' := s.drawn) (ch := []) (fun _ z => nomatch z) (fun b o h1 _ _ e _ => k b o h1 e) (fun b o h1 _ _ e _ => ⟨o.slots, k b o h1 e⟩)
    (fun b o _ e q => by rw [upd_ne (fun z => by rw [z, hp] at e; cases e)]; exact q) (fun b o _ e => ?_)
    (fun b xs q => by rw [upd_ne (ne_of_none q hn)]; exact q) (fun b o u q => by rw [upd_ne (ne_of_none q hn)]; exact q) (fun b ps q => ⟨#[], by rw [upd_ne (ne_of_none q hn), q]; simp⟩) (fun m2 h2 => ?_) (fun b u e => ?_) I.bare
  · by_cases hb : b = X.env.locals
    · subst hb
      obtain ⟨o', _, _, e', _⟩ := hm'
      exact ⟨o', e'⟩
    · exact ⟨o, k b o hb e⟩
  · rw [ns_one h2 hm]; exact hm'
  · by_cases hb : b = a
    · subst hb
      rw [upd_same] at e
      cases e
      exact ⟨hz, its, n, rv, ho⟩
    · rw [upd_ne hb] at e
      refine (I.hok b u e).stay (fun c v hc q => k c v ?_ q) (fun c q => by rw [upd_ne (ne_of_none q hn)]; exact q) fun c xs q => by rw [upd_ne (ne_of_none q hn)]; exact q
      rcases hc with rfl | hc
      · exact neL _ _ e
      · exact neL _ _ hc
end
/-! ### all, any over a list of bools -/
section
variable {X : Cx}
theorem bools_of : ∀ {bs : List Bool} {vs : List Value}, Vals (bs.map V.bl) vs → LSm.BoolsAre vs bs
  | [], _, .nil => .nil
  | b :: bs, _, .cons r t => by
    cases (show _ = Value.bool b from r)
    exact .cons b (bools_of t)
theorem call_all (hc : X.calm = true) : CallR X (.builtin "all") (fun xs H Q => ∃ (p : Addr) (bs : List Bool), xs = [.ref p] ∧ SqL X.K H p (bs.map V.bl) ∧ Q (.bl (bs.all id)) H) := by
  intro pins s σ H xs us Q I r h
  obtain ⟨p, bs, rfl, hq, q⟩ := h
  obtain ⟨u, rfl, rx⟩ := Vals.one r
  cases (show u = Value.ref p from rx)
  obtain ⟨its, rv, pl, hz⟩ := I.list hq
  obtain ⟨m, F⟩ := I.fr
  have hb := bools_of rv
  have hl : s.heap.IsList p its.toArray := pl.isList
  have hlt : p < s.heap.objs.size := by obtain ⟨_, e, _⟩ := hl; exact Heap.lt_size e
  refine call_all_walk (wpAny_pyIter_list hl ?_)
  refine ⟨s.heap.objs.size, [s.heap.objs.size, p], [s.heap.objs.size], its.toArray.size, _, _, fun i => (bs[i]?).getD true, rfl, Walks.list (A := X.A.in1) (I.ok.hd hc) _ p (Nat.ne_of_lt hlt) its.toArray,
    ⟨⟨_, Heap.get?_push_size _ rfl, rfl, rfl⟩, hl.push _⟩, fun i v s' Q' E' hP hQ => ?_, fun h' tk hk => ?_⟩
  · obtain ⟨b, e, rfl⟩ := hb.get i v (by simpa using hP)
    simp only [e, Option.getD_some] at hQ
    exact wpAny_truthy_bool hQ
  · have e : ((List.range its.toArray.size).all fun i => (bs[i]?).getD true) = bs.all id := by
      rw [List.size_toArray, hb.length]; exact LSm.range_all bs
    rw [e]
    exact ⟨.bl _, H, I.kept (LSm.kept_iter hk), rfl, q⟩
end
/-! ### sorted: a list of tuples, texts that all share ahead, then ints, no two alike -/
section
variable {prog : Program} {w : World} {A : Around} {E : Value → Shared → Prop} {s : Shared}
/-- what is collected of l: its items, laid in a new list -/
noncomputable def Col (prog : Program) (w : World) (s : Shared) (l : Addr) (vs : List Value) : Prop := ∀ (A : Around) (E : Value → Shared → Prop) (Q : List Value → Shared → Prop),
  Q vs { s with heap := (s.heap.push (seqObj "list" #[] 0)).update s.heap.objs.size (Obj.mapSeq (· ++ vs.toArray)) } → wpAny (model prog w) A (collect (.ref l)) Q E s
theorem Col.list {l : Addr} {vs : List Value} (hl : s.heap.IsList l vs.toArray) (hz : vs.length ≤ sizeLine) : Col prog w s l vs := fun _ _ _ h => collect_list hl h hz
theorem Col.tup {l : Addr} {vs : List Value} (hl : IsTup s.heap l vs.toArray) (hz : vs.length ≤ sizeLine) : Col prog w s l vs := by
  intro A E Q h
  obtain ⟨o, ho, hc, n, hd⟩ := hl
  have ho' : (s.heap.push (seqObj "list" #[] 0)).get? l = some o := Heap.get?_push_of_some _ ho
  have e0 : ((#[] : Array Value) ++ vs.toArray).toList = vs := by simp
  unfold collect
  refine wpAny_bind (wpAny_runValue (codeAny_builtin entry_proto_collect' ?_))
  show wpAny _ _ (do again (.builtin "list.__iadd__" ⟨[← newList [], .ref l], []⟩)) _ _ s
  refine wpAny_bind (wpAny_newList (wpAny_pure ⟨Code.quiet_builtin _ (by decide +kernel), codeAny_builtin entry_list_iadd' ?_⟩))
  show wpAny _ _ (Builtin.List.listExtendWith (.ref s.heap.objs.size) (.ref l) (.ref s.heap.objs.size)) _ _ { s with heap := s.heap.push (seqObj "list" #[] 0) }
  unfold Builtin.List.listExtendWith
  refine wpAny_bind (wpAny_typeOf (T := "tuple") ⟨o, ho', hc⟩ ?_)
  have ht2 : (Value.type "tuple" == Value.type "tuple") = true := by rfl
  rw [if_pos (by rw [ht2]; simp)]
  refine wpAny_bind (listItems_at ho' hd ?_)
  refine wpAny_bind (listItems_at (xs := #[]) (n := 0) (Heap.get?_push_size _ rfl) rfl ?_)
  rw [if_neg (by simp)]
  refine wpAny_bind (listUpdate_at (xs := #[]) (n := 0) (Heap.get?_push_size _ rfl) rfl ?_ (Nat.zero_le _) (Nat.le_trans (Nat.le_of_eq (by rw [← Array.length_toList, e0])) (Nat.le_succ_of_le hz)))
  refine wpAny_pure ?_
  show wpAny (model prog w) A (do
      let ob ← load s.heap.objs.size
      match ob.data with
      | .seq xs _ => pure xs.toList
      | _ => unsupported "internal:collect") Q E { s with heap := (s.heap.push (seqObj "list" #[] 0)).update s.heap.objs.size (Obj.mapSeq (· ++ vs.toArray)) }
  refine wpAny_bind (wpAny_load (get?_update_seq (Heap.get?_push_size _ rfl) _) ?_)
  show wpAny _ _ (pure ((#[] : Array Value) ++ vs.toArray).toList) Q E _
  rw [e0]
  exact wpAny_pure h
theorem sorted_many {l : Addr} {vs : List Value} {Q : Value → Shared → Prop} {h₀ : Heap} {L : Addr} {m : Str → Option Value} {news : List (Addr × Obj)} (F : Fr h₀ L s.heap m) (N : News h₀ L s.heap news) (hl : Col prog w s l vs) (h2 : 2 ≤ vs.length) (h64 : vs.length < 64)
    (h : ∀ D e1 h', Fr h₀ L h' m → News h₀ L h' ((D, seqObj "list" #[] e1) :: news) → (∀ q ∈ news, q.1 < D) →
      wpAny (model prog w) A.in1.in1 (keyKind' vs.toArray) (fun κ s' => (PySem.W.kas_sort vs.length).kasWp (PySem.W.kas_ask prog w A.in1.in1 κ vs) (fun p s'' => PySem.W.KasFin h₀ L m D e1 (p.toList.map fun i => vs.getD i Value.none) (fun s3 => Q (.ref D) s3) s'') s') (fun _ _ => False) { s with heap := h' }) :
    wpAny (model prog w) A (call (.builtin "sorted") [.ref l]) Q E s := by
  have hsl : vs.length ≤ sizeLine := by rw [sizeLine_eq]; omega
  refine Calls.call_function_entry kind_sorted plain_sorted entry_sorted (args_sorted1 _) ?_
  unfold Builtin.«sorted»
  refine wpAny_bind (m := checkCount "sorted" 1 1 _) (wpAny_pure ?_)
  refine wpAny_bind (hl _ _ _ ?_)
  refine wpAny_bind (wpAny_newList ?_ hsl)
  have hsz : ((s.heap.push (seqObj "list" #[] 0)).update s.heap.objs.size (Obj.mapSeq (· ++ vs.toArray))).objs.size = s.heap.objs.size + 1 := by
    rw [Heap.size_update, size_push']
  have hoL : (((s.heap.push (seqObj "list" #[] 0)).update s.heap.objs.size (Obj.mapSeq (· ++ vs.toArray))).push (seqObj "list" vs.toArray 0)).get? (s.heap.objs.size + 1) = some (seqObj "list" vs.toArray 0) := by
    rw [← hsz]; exact Heap.get?_push_size _ rfl
  have keep : ∀ b o, s.heap.get? b = some o → (((s.heap.push (seqObj "list" #[] 0)).update s.heap.objs.size (Obj.mapSeq (· ++ vs.toArray))).push (seqObj "list" vs.toArray 0)).get? b = some o := fun b o q => by
    have hlt : b < s.heap.objs.size := Heap.lt_size q
    rw [Heap.get?_push_ne _ _ _ (by rw [hsz]; exact Nat.ne_of_lt (Nat.lt_succ_of_lt hlt)), Heap.get?_update_ne _ _ _ _ (Nat.ne_of_lt hlt), Heap.get?_push_ne _ _ _ (Nat.ne_of_lt hlt)]
    exact q
  have hL : L < s.heap.objs.size := F.ns.lt
  show wpAny _ _ _ _ _ { s with heap := ((s.heap.push (seqObj "list" #[] 0)).update s.heap.objs.size (Obj.mapSeq (· ++ vs.toArray))).push (seqObj "list" vs.toArray 0) }
  rw [hsz]
  refine wpAny_bind (wpAny_holding (wpAny_call_entry slot_list_sort ⟨_, hoL, rfl⟩ entry_list_sort ?body (args_list_sort _)))
  case body =>
    refine PySem.W.kat_list_sort (s := { s with heap := ((s.heap.push (seqObj "list" #[] 0)).update s.heap.objs.size (Obj.mapSeq (· ++ vs.toArray))).push (seqObj "list" vs.toArray 0) })
      (F.kept keep) (N.grown keep) hoL (Nat.ne_of_gt (Nat.lt_succ_of_lt hL)) (Heap.get?_none_of_le (Nat.le_trans F.above (Nat.le_succ_of_le (Nat.le_of_lt hL))))
      (fun p hp => Nat.ne_of_lt (Nat.lt_succ_of_lt (Heap.lt_size (N p hp).1))) h2 h64 fun e1 h' F' N' => ?_
    refine wpAny_mono (h _ e1 h' F' N' fun q hq => Nat.lt_succ_of_lt (Heap.lt_size (N q hq).1)) (fun κ s' hk => ?_) fun _ _ x => x
    rw [PySem.W.kat_ask_eq rfl] at hk ⊢
    exact PySem.W.kas_wp_mono hk fun p s'' hk' => hk'.mono fun s3 hq => ⟨_, rfl, wpAny_pure ⟨_, rfl, hq⟩⟩
theorem sorted_few {l : Addr} {vs : List Value} {Q : Value → Shared → Prop} (hl : Col prog w s l vs) (h2 : vs.length < 2)
    (h : ∀ D h' n, s.heap.objs.size ≤ D → (∀ b o, s.heap.get? b = some o → h'.get? b = some o) → h'.get? D = some { cls := .type "list", data := .seq vs.toArray n } → Q (.ref D) { s with heap := h' }) :
    wpAny (model prog w) A (call (.builtin "sorted") [.ref l]) Q E s := by
  have hsl : vs.length ≤ sizeLine := by rw [sizeLine_eq]; omega
  refine Calls.call_function_entry kind_sorted plain_sorted entry_sorted (args_sorted1 _) ?_
  unfold Builtin.«sorted»
  refine wpAny_bind (m := checkCount "sorted" 1 1 _) (wpAny_pure ?_)
  refine wpAny_bind (hl _ _ _ ?_)
  refine wpAny_bind (wpAny_newList ?_ hsl)
  have hsz : ((s.heap.push (seqObj "list" #[] 0)).update s.heap.objs.size (Obj.mapSeq (· ++ vs.toArray))).objs.size = s.heap.objs.size + 1 := by
    rw [Heap.size_update, size_push']
  have hoL : (((s.heap.push (seqObj "list" #[] 0)).update s.heap.objs.size (Obj.mapSeq (· ++ vs.toArray))).push (seqObj "list" vs.toArray 0)).get? (s.heap.objs.size + 1) = some (seqObj "list" vs.toArray 0) := by
    rw [← hsz]; exact Heap.get?_push_size _ rfl
  have keep : ∀ b o, s.heap.get? b = some o → (((s.heap.push (seqObj "list" #[] 0)).update s.heap.objs.size (Obj.mapSeq (· ++ vs.toArray))).push (seqObj "list" vs.toArray 0)).get? b = some o := fun b o q => by
    have hlt : b < s.heap.objs.size := Heap.lt_size q
    rw [Heap.get?_push_ne _ _ _ (by rw [hsz]; exact Nat.ne_of_lt (Nat.lt_succ_of_lt hlt)), Heap.get?_update_ne _ _ _ _ (Nat.ne_of_lt hlt), Heap.get?_push_ne _ _ _ (Nat.ne_of_lt hlt)]
    exact q
  show wpAny _ _ _ _ _ { s with heap := ((s.heap.push (seqObj "list" #[] 0)).update s.heap.objs.size (Obj.mapSeq (· ++ vs.toArray))).push (seqObj "list" vs.toArray 0) }
  rw [hsz]
  generalize ((s.heap.push (seqObj "list" #[] 0)).update s.heap.objs.size (Obj.mapSeq (· ++ vs.toArray))).push (seqObj "list" vs.toArray 0) = g at hoL keep ⊢
  refine wpAny_bind (wpAny_holding (wpAny_call_entry slot_list_sort ⟨_, hoL, rfl⟩ entry_list_sort ?body (args_list_sort _)))
  case body =>
    rw [list_sort_plain]
    have ha : s.heap.objs.size + 1 < g.objs.size := Heap.lt_size hoL
    refine wpAny_bind (listItems_at hoL rfl ?_)
    refine wpAny_bind (listUpdate_at hoL rfl ?_ (by rw [List.size_toArray]; exact hsl) (Nat.zero_le _))
    obtain ⟨e1, ho1⟩ : ∃ e1, (g.update (s.heap.objs.size + 1) (Obj.mapSeq fun _ => (#[] : Array Value))).get? (s.heap.objs.size + 1) = some (seqObj "list" #[] e1) := ⟨_, get?_update_seq hoL (fun _ => #[])⟩
    refine wpAny_bind (seqEpoch_at ho1 rfl ?_)
    refine wpAny_bind (wpAny_newTuple ?_ hsl)
    refine wpAny_bind (wpAny_newList ?_ (Nat.zero_le _))
    refine wpAny_holding ?_
    have ho6 : (((g.update (s.heap.objs.size + 1) (Obj.mapSeq fun _ => (#[] : Array Value))).push (seqObj "tuple" vs.toArray 0)).push (seqObj "list" #[] 0)).get? (s.heap.objs.size + 1) = some (seqObj "list" #[] e1) := by
      rw [Heap.get?_push_ne _ _ _ (by rw [size_push', Heap.size_update]; exact Nat.ne_of_lt (Nat.lt_succ_of_lt ha)), Heap.get?_push_ne _ _ _ (by rw [Heap.size_update]; exact Nat.ne_of_lt ha)]
      exact ho1
    show wpAny (model prog w) _ _ _ _ { s with heap := ((g.update (s.heap.objs.size + 1) (Obj.mapSeq fun _ => (#[] : Array Value))).push (seqObj "tuple" vs.toArray 0)).push (seqObj "list" #[] 0) }
    dsimp only
    have h2' : vs.toArray.size < 2 := by simpa using h2
    rw [if_pos h2', if_pos h2']
    refine wpAny_bind (wpAny_pure ?_)
    rw [StateT.run_pure]
    refine wpAny_bind (wpAny_pure ?_)
    dsimp only
    refine wpAny_bind (seqEpoch_at ho6 rfl ?_)
    have earr : (arrOf (SortSt.mk' general' (vs.toArray.zip vs.toArray) #[] 7 none)).map (·.2) = vs.toArray := by
      show (pairsOf vs).map (·.2) = vs.toArray
      apply Array.toList_inj.mp
      rw [Array.toList_map, pairsOf_toList]
      have e : ∀ l : List Value, (l.zip l).map (·.2) = l := fun l => by
        induction l with
        | nil => rfl
        | cons a r ih => rw [List.zip_cons_cons, List.map_cons, ih]
      rw [e]
    refine wpAny_bind (listUpdate_at ho6 rfl ?_ (Nat.zero_le _) (hsz2 := by rw [earr, List.size_toArray]; exact Nat.le_succ_of_le hsl))
    simp only [bne_self_eq_false, Bool.false_eq_true, if_false]
    refine wpAny_pure ⟨_, rfl, wpAny_pure ⟨_, rfl, ?_⟩⟩
    have s2 := get?_update_seq ho6 fun _ => vs.toArray
    rw [earr]
    refine h _ _ _ (Nat.le_succ _) (fun b o q => ?_) s2
    have hlt : b < s.heap.objs.size := Heap.lt_size q
    have hlt2 : b < g.objs.size := Heap.lt_size (keep b o q)
    rw [Heap.get?_update_ne _ _ _ _ (Nat.ne_of_lt (Nat.lt_succ_of_lt hlt)), Heap.get?_push_ne _ _ _ (by rw [size_push', Heap.size_update]; exact Nat.ne_of_lt (Nat.lt_succ_of_lt hlt2)), Heap.get?_push_ne _ _ _ (by rw [Heap.size_update]; exact Nat.ne_of_lt hlt2),
      Heap.get?_update_ne _ _ _ _ (Nat.ne_of_lt (Nat.lt_succ_of_lt hlt))]
    exact keep b o q
end
end L2

set_option Elab.async false
set_option linter.all false
set_option maxRecDepth 100000
set_option maxHeartbeats 1000000
namespace L2
open PySem PySem.Spec PyProof.Rows
/-! ### lists of ints in their order -/
theorem lex_asym : ∀ {a b : List Int}, HT.lexLt a b = true → HT.lexLt b a = false
  | [], [], h => by cases h
  | [], _ :: _, _ => rfl
  | _ :: _, [], h => by cases h
  | x :: a, y :: b, h => by
    rw [HT.lexLt_cons] at h ⊢
    by_cases e : x = y
    · rw [if_pos e] at h
      rw [if_pos e.symm]
      exact lex_asym h
    · rw [if_neg e] at h
      rw [if_neg (Ne.symm e)]
      have := of_decide_eq_true h
      exact decide_eq_false (by omega)
theorem lex_tot : ∀ {a b : List Int}, a ≠ b → HT.lexLt a b = false → HT.lexLt b a = true
  | [], [], h, _ => (h rfl).elim
  | [], _ :: _, _, h => by cases h
  | _ :: _, [], _, _ => rfl
  | x :: a, y :: b, hne, h => by
    rw [HT.lexLt_cons] at h ⊢
    by_cases e : x = y
    · rw [if_pos e] at h
      rw [if_pos e.symm]
      exact lex_tot (fun z => hne (by rw [e, z])) h
    · rw [if_neg e] at h
      rw [if_neg (Ne.symm e)]
      have := of_decide_eq_false h
      exact decide_eq_true (by omega)
theorem lex_tr : ∀ {a b c : List Int}, HT.lexLt a b = true → HT.lexLt b c = true → HT.lexLt a c = true
  | [], _, [], h1, h2 => by
    rename_i b
    cases b
    · exact h1
    · cases h2
  | [], _, _ :: _, _, _ => rfl
  | _ :: _, [], _, h, _ => by cases h
  | _ :: _, _ :: _, [], _, h => by cases h
  | x :: a, y :: b, z :: c, h1, h2 => by
    rw [HT.lexLt_cons] at h1 h2 ⊢
    by_cases e1 : x = y
    · rw [if_pos e1] at h1
      by_cases e2 : y = z
      · rw [if_pos e2] at h2
        rw [if_pos (e1.trans e2)]
        exact lex_tr h1 h2
      · rw [if_neg e2] at h2
        rw [if_neg (by rw [e1]; exact e2), e1]
        exact h2
    · rw [if_neg e1] at h1
      by_cases e2 : y = z
      · rw [if_pos e2] at h2
        rw [if_neg (by rw [← e2]; exact e1), ← e2]
        exact h1
      · rw [if_neg e2] at h2
        have p := of_decide_eq_true h1
        have q := of_decide_eq_true h2
        rw [if_neg (by omega)]
        exact decide_eq_true (by omega)
section
variable {prog : Program} {w : World} {A : Around} {E : Value → Shared → Prop} {s : Shared}
/-- two tuples of as many ints, item by item -/
theorem lex_ints {b : Bool} {Q : Bool → Shared → Prop} : ∀ {ns ms : List Int} {vs us : List Value} (i : Nat), Vals (ns.map V.int) vs → Vals (ms.map V.int) us → ns.length = ms.length → Q (HT.lexLt ns ms) s →
    PySem.W.KatLex prog w A b false Q (vs.zip us) i s
  | [], [], _, _, _, .nil, .nil, _, q => q
  | [], _ :: _, _, _, _, _, _, h, _ => by simp at h
  | _ :: _, [], _, _, _, _, _, h, _ => by simp at h
  | n :: ns, m :: ms, _, _, i, .cons r1 t1, .cons r2 t2, h, q => by
    obtain ⟨t, rfl⟩ := r1
    obtain ⟨u, rfl⟩ := r2
    rw [List.zip_cons_cons]
    refine PySem.W.kat_cons (SeqAt.EqAt.int_int n t m u prog w _ _ ?_)
    rw [HT.lexLt_cons] at q
    by_cases e : n = m
    · rw [if_pos e] at q
      rw [show (n == m) = true by simpa using e]
      exact PySem.W.kat_yes (lex_ints (i + 1) t1 t2 (by simpa using h) q)
    · rw [if_neg e] at q
      rw [show (n == m) = false by simpa using e]
      refine PySem.W.kat_no ?_
      cases hb : (b && i == 0) with
      | true => exact oneLt_int q
      | false => exact PySem.W.kat_one _ _ (lt_int (show PySem.W.BoolBack Q (.bool (decide (n < m))) s from q))
theorem lex_pre {b : Bool} {Q : Bool → Shared → Prop} {ns ms : List Int} : ∀ {ps : List Str} {vs us : List Value} (i : Nat), Vals (ps.map V.str ++ ns.map V.int) vs → Vals (ps.map V.str ++ ms.map V.int) us → ns.length = ms.length → Q (HT.lexLt ns ms) s →
    PySem.W.KatLex prog w A b false Q (vs.zip us) i s
  | [], _, _, i, h1, h2, h, q => lex_ints i h1 h2 h q
  | p :: ps, _, _, i, .cons r1 t1, .cons r2 t2, h, q => by
    obtain ⟨t, rfl⟩ := r1
    obtain ⟨u, rfl⟩ := r2
    rw [List.zip_cons_cons]
    refine PySem.W.kat_cons (SeqAt.EqAt.str_str p t p u prog w _ _ ?_)
    rw [beq_self_eq_true]
    exact PySem.W.kat_yes (lex_pre (i + 1) t1 t2 h q)
end
/-- what is sorted: the ints behind shared texts -/
noncomputable def tupOf (ps : List Str) (ns : List Int) : PyData := .tuple (ps.map .str ++ ns.map .int)
theorem IsAll.preInts {H : Hp} {ns : List Int} : ∀ {ps : List Str} {vs : List V}, IsAll H vs (ps.map PyData.str ++ ns.map PyData.int) → vs = ps.map V.str ++ ns.map V.int
  | [], _, h => h.of_ints
  | p :: ps, _, h => by
    rw [List.map_cons, List.cons_append] at h
    cases h with
    | cons h1 t =>
    cases h1
    have := IsAll.preInts (ps := ps) t
    rw [this]
    rfl
theorem katTups_of {h : Heap} {G : Value → Prop} : ∀ (its : List Value), (∀ (i : Nat) u, its[i]? = some u → ∃ (a : Addr) (o : Obj) (zs : Array Value) (n : Nat) (f : Value), u = .ref a ∧ h.get? a = some o ∧ o.cls = .type "tuple" ∧ o.data = .seq zs n ∧ zs[0]? = some f ∧ G f) →
    ∃ fs, PySem.W.KatTups h its fs ∧ fs.length = its.length ∧ ∀ v ∈ fs, G v
  | [], _ => ⟨[], PySem.W.KatTups.nil, rfl, fun _ h => nomatch h⟩
  | u :: its, hi => by
    obtain ⟨fs, t, l, g⟩ := katTups_of its fun i u e => hi (i + 1) u (by simpa using e)
    obtain ⟨a, o, zs, n, f, rfl, h1, h2, h3, h4, h5⟩ := hi 0 u rfl
    refine ⟨f :: fs, PySem.W.KatTups.cons h1 h2 h3 h4 t, by simp [l], fun v hv => ?_⟩
    rcases List.mem_cons.mp hv with rfl | hv
    · exact h5
    · exact g v hv
theorem map_getD_range {α : Type} (d : α) (l : List α) : (List.range l.length).map (fun i => l.getD i d) = l := by
  apply List.ext_getElem?
  intro i
  rw [List.getElem?_map]
  by_cases h : i < l.length
  · rw [List.getElem?_range h]
    simp [h]
  · rw [List.getElem?_eq_none (by simpa using h), List.getElem?_eq_none (by simpa using h)]
    rfl
section
variable {X : Cx}
noncomputable def rSorted (K : PySem.W.Frag) : List V → Hp → VK → Prop := fun xs H Q => ∃ (p : Addr) (vs : List V) (ps : List Str) (nss : List (List Int)) (k : Nat), xs = [.ref p] ∧ (SqL K H p vs ∨ SqT K H p vs) ∧ IsAll H vs (nss.map (tupOf ps)) ∧ (∀ ns ∈ nss, ns.length = k) ∧ 0 < ps.length + k ∧ nss.Nodup ∧ nss.length < 64 ∧
  ∀ (l : Addr) (vs' : List V) (nss' : List (List Int)), H l = none → IsAll H vs' (nss'.map (tupOf ps)) → nss'.Perm nss → nss'.Pairwise (fun a b => HT.lexLt a b = true) → Q (.ref l) (upd H l (.lst vs'))
theorem call_sorted : CallR X (.builtin "sorted") (rSorted X.K) := by
  intro pins s σ H xs us Q I r h
  obtain ⟨p, vs, ps, nss, k, rfl, hq, ha, hk, hpos, hnd, h64, q⟩ := h
  obtain ⟨u, rfl, rx⟩ := Vals.one r
  cases (show u = Value.ref p from rx)
  obtain ⟨its, rv, hl, hz⟩ : ∃ its, Vals vs its ∧ Col X.prog X.w s p its ∧ vs.length ≤ sizeLine := by
    rcases hq with hq | hq
    · obtain ⟨its, rv, pl, hz⟩ := I.list hq
      exact ⟨its, rv, Col.list pl.isList (by rw [← rv.length]; exact hz), hz⟩
    · obtain ⟨its, rv, pl, hz⟩ := I.tuple hq
      exact ⟨its, rv, Col.tup pl (by rw [← rv.length]; exact hz), hz⟩
  have e1 : vs.length = nss.length := by rw [ha.length, List.length_map]
  have e2 : its.length = nss.length := by rw [← rv.length, e1]
  by_cases h2 : its.length < 2
  · refine sorted_few hl h2 fun D h' n hD hkeep ho => ?_
    refine ⟨.ref D, _, I.laid (t' := s.toks) (o := .lst vs) hkeep hD ⟨hz, its, n, rv, ho⟩, rfl, q D vs nss (I.hok.fresh hD) ha (List.Perm.refl _) ?_⟩
    match nss, e2, h2 with
    | [], _, _ => exact .nil
    | [a], _, _ => exact List.pairwise_singleton _ _
    | a :: b :: r, e2, h2 => simp at e2; omega
  · obtain ⟨m, F⟩ := I.fr
    refine sorted_many F (news := allNews X.base s.heap X.env.locals) news_all hl (by omega) (by omega) fun D e0 h' F' N' hD => ?_
    have hkeep : ∀ b o, b ≠ X.env.locals → s.heap.get? b = some o → h'.get? b = some o := fun b o hb e => by
      cases qb : X.base.get? b with
      | some u =>
        have := I.bk b u qb
        rw [e] at this; cases this
        exact F'.keep b _ qb
      | none => exact (N' (b, o) (List.mem_cons_of_mem _ (mem_allNews hb qb e))).1
    -- the items, one by one
    have item : ∀ (i : Nat) (ns : List Int), nss[i]? = some ns → ∃ (a : Addr) (o : Obj) (zs : List Value) (n : Nat), its.getD i Value.none = .ref a ∧ h'.get? a = some o ∧ o.cls = .type "tuple" ∧ o.data = .seq zs.toArray n ∧ Vals (ps.map V.str ++ ns.map V.int) zs := fun i ns e => by
      obtain ⟨v, ev, iv⟩ := ha.get (i := i) (d := tupOf ps ns) (by rw [List.getElem?_map, e]; rfl)
      obtain ⟨u, eu, ru⟩ := rv.get ev
      unfold tupOf at iv
      cases iv with
      | @tup a xs _ ea hxs =>
        obtain rfl := hxs.preInts
        obtain ⟨zs, rz, ⟨o, h1, h2, n, h3⟩, _⟩ := I.tuple (SqT.of ea)
        have hL : a ≠ X.env.locals := fun z => by rw [z, I.free] at ea; cases ea
        refine ⟨a, o, zs, n, ?_, hkeep a o hL h1, h2, h3, rz⟩
        rw [List.getD_eq_getElem?_getD, eu]
        exact ru
    -- the kind of the keys
    obtain ⟨T, fs, tups, hfl, hT, hTT⟩ : ∃ (T : String) (fs : List Value), PySem.W.KatTups h' its fs ∧ fs.length = its.length ∧ (∀ v ∈ fs, typeOf v = pure (Value.type T)) ∧ (Value.type T == Value.type T) = true := by
      have go : ∀ T : String, (∀ (ns : List Int) (zs : List Value), ns.length = k → Vals (ps.map V.str ++ ns.map V.int) zs → ∃ f, zs.toArray[0]? = some f ∧ typeOf f = pure (Value.type T)) →
          ∃ (fs : List Value), PySem.W.KatTups h' its fs ∧ fs.length = its.length ∧ (∀ v ∈ fs, typeOf v = pure (Value.type T)) := fun T hf =>
        katTups_of its fun i u eu => by
          have hi : i < nss.length := by rw [← e2]; exact (List.getElem?_eq_some_iff.mp eu).1
          obtain ⟨a, o, zs, n, g1, g2, g3, g4, g5⟩ := item i nss[i] (List.getElem?_eq_getElem hi)
          rw [List.getD_eq_getElem?_getD, eu] at g1
          obtain ⟨f, f1, f2⟩ := hf _ zs (hk _ (List.getElem_mem hi)) g5
          exact ⟨a, o, zs.toArray, n, f, g1, g2, g3, g4, f1, f2⟩
      cases hps : ps with
      | nil =>
        obtain ⟨fs, a, b, c⟩ := go "int" fun ns zs hn rz => by
          subst hps
          match ns, zs, rz, hn with
          | [], _, _, hn => simp at hpos; subst hn; simp at hpos
          | n :: ns, _, .cons r _, _ =>
            obtain ⟨t, rfl⟩ := r
            exact ⟨_, rfl, rfl⟩
        exact ⟨"int", fs, a, b, c, rfl⟩
      | cons p1 pr =>
        obtain ⟨fs, a, b, c⟩ := go "str" fun ns zs hn rz => by
          subst hps
          match zs, rz with
          | _, .cons r _ =>
            obtain ⟨t, rfl⟩ := r
            exact ⟨_, rfl, rfl⟩
        exact ⟨"str", fs, a, b, c, rfl⟩
    refine PySem.W.kat_kind tups (by omega) (fun v hv => PySem.W.Looks.of_pure (hT v hv)) hTT ?_
    have S : Str1 (fun i j => HT.lexLt (nss.getD i []) (nss.getD j [])) its.length := ⟨fun i j k _ _ _ a b => lex_tr a b, fun i j hi hj hne a => lex_tot (fun z => hne ?_) a, fun i j _ _ a => lex_asym a⟩
    · rw [e2]
      rw [e2] at S
      refine Run.wp (fun i j C hi hj hC => ?_) (fun pq hpq => ?_) (run_sort S (by omega))
      · show wpAny _ _ (keyLt' _ (its.getD i Value.none) (its.getD j Value.none)) C _ _
        obtain ⟨a, o, zs, n, g1, g2, g3, g4, g5⟩ := item i nss[i] (List.getElem?_eq_getElem hi)
        obtain ⟨a', o', zs', n', g1', g2', g3', g4', g5'⟩ := item j nss[j] (List.getElem?_eq_getElem hj)
        rw [g1, g1']
        refine PySem.W.kat_lt g2 g4 g2' g4' ?_
        have hn1 := hk _ (List.getElem_mem hi)
        have hn2 := hk _ (List.getElem_mem hj)
        have ez : decide (zs.toArray.size < zs'.toArray.size) = false := by
          have l1 := g5.length
          have l2 := g5'.length
          simp only [List.length_append, List.length_map] at l1 l2
          simp only [List.size_toArray]
          exact decide_eq_false (by omega)
        rw [ez]
        refine lex_pre 0 (by simpa using g5) (by simpa using g5') (by omega) ?_
        have e1' : nss.getD i [] = nss[i] := by simp [hi]
        have e2' : nss.getD j [] = nss[j] := by simp [hj]
        rw [← e1', ← e2']
        exact hC
      · obtain ⟨P, up⟩ := hpq
        refine PySem.W.KasFin.intro F' N' (.head fun x hx => Nat.ne_of_lt (hD x hx)) fun h'' c F'' N'' => ?_
        have hnD : s.heap.get? D = none := by
          cases qd : s.heap.get? D with
          | none => rfl
          | some o =>
            have hh := N' (D, _) List.mem_cons_self
            have hm := hD (D, o) (mem_allNews hh.2.1 hh.2.2 qd)
            exact absurd hm (Nat.lt_irrefl _)
        have hkeep2 : ∀ b o, b ≠ X.env.locals → s.heap.get? b = some o → h''.get? b = some o := fun b o hb e => by
          cases qb : X.base.get? b with
          | some u =>
            have := I.bk b u qb
            rw [e] at this; cases this
            exact F''.keep b _ qb
          | none => exact (N'' (b, o) (List.mem_cons_of_mem _ (mem_allNews hb qb e))).1
        have hlt : ∀ x ∈ pq.toList, x < nss.length := fun x hx => List.mem_range.mp (P.pm.mem_iff.mp hx)
        have rv2 : ∀ l : List Nat, (∀ x ∈ l, x < nss.length) → Vals (l.map fun i => vs.getD i .non) (l.map fun i => its.getD i Value.none) ∧ IsAll H (l.map fun i => vs.getD i .non) ((l.map fun i => nss.getD i []).map (tupOf ps)) := fun l => by
          induction l with
          | nil => exact fun _ => ⟨.nil, .nil⟩
          | cons x l ih =>
            intro hx
            obtain ⟨ih1, ih2⟩ := ih fun y hy => hx y (List.mem_cons_of_mem _ hy)
            have hxn := hx x List.mem_cons_self
            obtain ⟨v, ev, iv⟩ := ha.get (i := x) (d := tupOf ps nss[x]) (by rw [List.getElem?_map, List.getElem?_eq_getElem hxn]; rfl)
            obtain ⟨u, eu, ru⟩ := rv.get ev
            have a1 : vs.getD x .non = v := by rw [List.getD_eq_getElem?_getD, ev]; rfl
            have a2 : its.getD x Value.none = u := by rw [List.getD_eq_getElem?_getD, eu]; rfl
            have a3 : nss.getD x [] = nss[x] := by simp [hxn]
            simp only [List.map_cons, a1, a2, a3]
            exact ⟨.cons ru ih1, .cons iv ih2⟩
        obtain ⟨rv3, ia3⟩ := rv2 pq.toList hlt
        have ho := (N'' (D, _) List.mem_cons_self).1
        have hpl : pq.toList.length = nss.length := by rw [Array.length_toList]; exact P.sz
        refine ⟨.ref D, _, I.laidBut (t' := s.toks) hkeep2 F.ns F''.ns hnD rv3 (by rw [List.length_map, hpl, sizeLine_eq]; omega) ho, rfl, q D _ _ (I.none_of hnD) ia3 ?_ ?_⟩
        · have := P.pm.map fun i => nss.getD i []
          rw [map_getD_range] at this
          exact this
        · rw [List.pairwise_iff_getElem]
          intro i j hi hj hij
          simp only [List.length_map] at hi hj
          have := up i j hij (by rw [← hpl]; exact hj)
          have z : ∀ x (hx : x < pq.toList.length), pq.getD x 0 = pq.toList[x] := fun x hx => by
            have hx' : x < pq.size := by simpa using hx
            simp [Array.getD, hx']
          rw [z i hi, z j hj] at this
          simpa using this
    · rw [e2] at hi hj
      have e1' : nss.getD i [] = nss[i] := by simp [hi]
      have e2' : nss.getD j [] = nss[j] := by simp [hj]
      rw [e1', e2'] at z
      exact (List.getElem_inj hnd).mp z
end
end L2

set_option Elab.async false
set_option linter.all false
set_option maxRecDepth 100000
set_option maxHeartbeats 1000000
namespace L2
open PySem PySem.Spec PyProof.Rows
theorem bt_len : bootBuiltins "len" = some (.builtin "len") := by decide +kernel
theorem bt_isinstance : bootBuiltins "isinstance" = some (.builtin "isinstance") := by decide +kernel
theorem bt_all : bootBuiltins "all" = some (.builtin "all") := by decide +kernel
theorem bt_sorted : bootBuiltins "sorted" = some (.builtin "sorted") := by decide +kernel
theorem bt_max : bootBuiltins "max" = some (.builtin "max") := by decide +kernel
theorem bt_sum : bootBuiltins "sum" = some (.builtin "sum") := by decide +kernel
theorem bt_zip : bootBuiltins "zip" = some (.type "zip") := by decide +kernel
theorem bt_tuple : bootBuiltins "tuple" = some (.type "tuple") := by decide +kernel
theorem bt_list : bootBuiltins "list" = some (.type "list") := by decide +kernel
theorem bt_int : bootBuiltins "int" = some (.type "int") := by decide +kernel
theorem bt_bool : bootBuiltins "bool" = some (.type "bool") := by decide +kernel
theorem bt_set : bootBuiltins "set" = some (.type "set") := by decide +kernel
theorem bt_reversed : bootBuiltins "reversed" = some (.type "reversed") := by decide +kernel
theorem pe_gint {X : Cx} {x : Str} {n : Int} {pos : Pos} (hg : Gl X x) (hm : ∃ tk, X.mg x = some (.int n tk)) (hd : (x == ("__debug__" : Str)) = false := by decide) : PE X (.Name x pos) (tC (.int n)) :=
  fun _ _ _ H _ I h => let ⟨tk, e⟩ := hm; ld_glob I hg e ⟨.int n, H, I, ⟨tk, rfl⟩, h⟩ hd
/-! ### an item of a list or a tuple -/
noncomputable def rIxA (K : PySem.W.Frag) : R2 := fun x y H Q => ∃ p xs i v, x = .ref p ∧ y = .int i ∧ (SqL K H p xs ∨ SqT K H p xs) ∧ atI xs i = some v ∧ Q v H
theorem ix_any {X : Cx} : IxR X (rIxA X.K) := by
  intro value slice pins s σ H x y v u Q I rx ry h hs
  obtain ⟨p, xs, i, w, e1, e2, hq, ha, q⟩ := h
  rcases hq with hq | hq
  · exact ix_list value slice pins s σ H x y v u Q I rx ry ⟨p, xs, i, w, e1, e2, hq, ha, q⟩ hs
  · exact ix_tup value slice pins s σ H x y v u Q I rx ry ⟨p, xs, i, w, e1, e2, hq, ha, q⟩ hs
/-! ### the built-in calls, each reading by a name -/
noncomputable def rIsinst : List V → Hp → VK → Prop := fun xs H Q => ∃ x T d, xs = [x, .ty T] ∧ T ∈ (["bool", "int", "tuple", "list", "str", "dict"] : List String) ∧ Is H x d ∧ Q (.bl (isTy T d)) H
noncomputable def rLen (K : PySem.W.Frag) : List V → Hp → VK → Prop := fun xs H Q => ∃ p ys, xs = [.ref p] ∧ (SqL K H p ys ∨ SqT K H p ys) ∧ Q (.int ys.length) H
noncomputable def rAll (K : PySem.W.Frag) : List V → Hp → VK → Prop := fun xs H Q => ∃ (p : Addr) (bs : List Bool), xs = [.ref p] ∧ SqL K H p (bs.map V.bl) ∧ Q (.bl (bs.all id)) H
noncomputable def rAny (K : PySem.W.Frag) : List V → Hp → VK → Prop := fun xs H Q => ∃ (p : Addr) (bs : List Bool), xs = [.ref p] ∧ SqL K H p (bs.map V.bl) ∧ Q (.bl (bs.any id)) H
noncomputable def rIsN : R2 := fun x y H Q => y = .non ∧ Q (.bl (decide (x = .non))) H
noncomputable def rNotN : R2 := fun x y H Q => y = .non ∧ Q (.bl (!decide (x = .non))) H
section
variable {X : Cx}
theorem c_isinst : CallR X (.builtin "isinstance") rIsinst := call_isinst
theorem c_len : CallR X (.builtin "len") (rLen X.K) := call_len_seq
theorem c_all (hc : X.calm = true) : CallR X (.builtin "all") (rAll X.K) := call_all hc
theorem o_isN : OpR X (compareOp .Is) rIsN := op_isN
theorem o_notN : OpR X (compareOp .IsNot) rNotN := op_notN
noncomputable def rTupOf (K : PySem.W.Frag) : List V → Hp → VK → Prop := fun xs H Q => ∃ p ys, xs = [.ref p] ∧ ((SqL K H p ys ∧ ∀ l, H l = none → Q (.ref l) (upd H l (.tup ys))) ∨ (SqT K H p ys ∧ Q (.ref p) H))
noncomputable def rLstOf (K : PySem.W.Frag) : List V → Hp → VK → Prop := fun xs H Q => ∃ p ys, xs = [.ref p] ∧ (SqL K H p ys ∨ SqT K H p ys) ∧ ∀ l, H l = none → Q (.ref l) (upd H l (.lst ys))
theorem c_list : CallR X (.type "list") (rLstOf X.K) := call_list_of
theorem c_tuple : CallR X (.type "tuple") (rTupOf X.K) := call_tuple_of
noncomputable def rMax2 : List V → Hp → VK → Prop := fun xs H Q => ∃ i j : Int, xs = [.int i, .int j] ∧ Q (.int (if j > i then j else i)) H
theorem c_max (hc : X.calm = true) : CallR X (.builtin "max") rMax2 := call_max2 hc
noncomputable def rInt1 : List V → Hp → VK → Prop := fun xs H Q => (∃ i, xs = [.int i] ∧ Q (.int i) H) ∨ ∃ k, xs = [.bl k] ∧ Q (.int (if k then 1 else 0)) H
theorem c_int : CallR X (.type "int") rInt1 := call_int1
end
@[reducible] def isBoolD : PyData → Bool | .bool _ => true | _ => false
@[reducible] def isIntD : PyData → Bool | .bool _ => true | .int _ => true | _ => false
@[reducible] def isTupD : PyData → Bool | .tuple _ => true | _ => false
@[reducible] def isLstD : PyData → Bool | .list _ => true | _ => false
@[reducible] def isStrD : PyData → Bool | .str _ => true | _ => false
/-! ### the readings, step by step -/
section
variable {σ : St} {H : Hp} {Q : VK} {D : Ends} {K : PySem.W.Frag}
theorem rd_seq {t u : TS} (h : t { D with nx := u D } σ H) : tSeq t u D σ H := h
theorem rd_next (h : D.nx σ H) : tNext D σ H := h
theorem rd_ifS {c : TT} {t u : TS} (h : c σ H fun b H1 => if b = true then t D σ H1 else u D σ H1) : tIfS c t u D σ H := h
theorem rd_ret {te : TE} (h : te σ H D.rt) : tRet te D σ H := h
theorem rd_drop {te : TE} (h : te σ H fun _ H1 => D.nx σ H1) : tDrop te D σ H := h
theorem rd_asg {te : TE} {g : TG} (h : te σ H fun x H1 => g x σ H1 D.nx) : tAsg te g D σ H := h
theorem rd_gname {i : Nat} {v : V} {P : St → Hp → Prop} (h : P (σ.set i (some v)) H) : gName i v σ H P := h
theorem rd_var {i : Nat} {v : V} (e : σ[i]? = some (some v)) (h : Q v H) : tVar i σ H Q := ⟨v, e, h⟩
theorem rd_C {v : V} (h : Q v H) : tC v σ H Q := h
theorem rd_test {te : TE} {P : Bool → Hp → Prop} (h : te σ H fun x H' => ∃ k, x = .bl k ∧ P k H') : tTest te σ H P := h
theorem rd_B {te : TE} {P : Bool → Hp → Prop} (h : te σ H fun x H' => ∃ k, x = .bl k ∧ P k H') : tB te σ H P := h
theorem rd_bl {b : Bool} {P : Bool → Hp → Prop} (h : P b H) : ∃ k, V.bl b = .bl k ∧ P k H := ⟨b, rfl, h⟩
theorem rd_op {r : R2} {ta tb : TE} (h : ta σ H fun x H1 => tb σ H1 fun y H2 => r x y H2 Q) : tOp r ta tb σ H Q := h
theorem rd_un {r : V → Hp → VK → Prop} {ta : TE} (h : ta σ H fun x H1 => r x H1 Q) : tUn r ta σ H Q := h
theorem rd_I0 {g : Int → Int → V} {i j : Int} (h : Q (g i j) H) : rI0 g (.int i) (.int j) H Q := ⟨i, j, rfl, rfl, h⟩
theorem rd_I {C : Int → Int → Prop} {g : Int → Int → V} {i j : Int} (hc : C i j) (h : Q (g i j) H) : rI C g (.int i) (.int j) H Q := ⟨i, j, rfl, rfl, hc, h⟩
theorem rd_and {t u : TT} {P : Bool → Hp → Prop} (h : t σ H fun c H1 => if c = true then u σ H1 P else P false H1) : tAnd t u σ H P := h
theorem rd_or {t u : TT} {P : Bool → Hp → Prop} (h : t σ H fun c H1 => if c = true then P true H1 else u σ H1 P) : tOr t u σ H P := h
theorem rd_not {t : TT} {P : Bool → Hp → Prop} (h : t σ H fun c H1 => P (!c) H1) : tNot t σ H P := h
theorem rd_andV {ta tb : TE} (h : ta σ H fun x H1 => ∃ c, x = .bl c ∧ if c = true then tb σ H1 Q else Q (.bl false) H1) : tAndV ta tb σ H Q := h
theorem rd_orV {ta tb : TE} (h : ta σ H fun x H1 => ∃ c, x = .bl c ∧ if c = true then Q (.bl true) H1 else tb σ H1 Q) : tOrV ta tb σ H Q := h
theorem rd_notV {ta : TE} (h : ta σ H fun x H1 => ∃ c, x = .bl c ∧ Q (.bl (!c)) H1) : tNotV ta σ H Q := h
theorem rd_blE {b : Bool} {P : Bool → Prop} (h : P b) : ∃ c, V.bl b = .bl c ∧ P c := ⟨b, rfl, h⟩
theorem rd_nil {P : List V → Hp → Prop} (h : P [] H) : tNil σ H P := h
theorem rd_cons {ta : TE} {tr : TA} {P : List V → Hp → Prop} (h : ta σ H fun x H1 => tr σ H1 fun xs H2 => P (x :: xs) H2) : tCons ta tr σ H P := h
theorem rd_tup {t : TA} (h : t σ H fun xs H1 => xs.length ≤ sizeLine ∧ ∀ p, H1 p = none → Q (.ref p) (upd H1 p (.tup xs))) : tTup t σ H Q := h
theorem rd_lst {t : TA} (h : t σ H fun xs H1 => xs.length ≤ sizeLine ∧ ∀ p, H1 p = none → Q (.ref p) (upd H1 p (.lst xs))) : tLst t σ H Q := h
theorem rd_call {sp : Sp} {dvs : List V} {E : XK} {t : TA} (h : t σ H fun vs H1 => sp (vs ++ dvs) H1 Q E) : tCall sp dvs E t σ H Q := h
theorem rd_cb {r : List V → Hp → VK → Prop} {t : TA} (h : t σ H fun vs H1 => r vs H1 Q) : tCB r t σ H Q := h
theorem rd_ixT {p : Addr} {xs : List V} {i : Int} {v : V} (e : H p = some (.tup xs)) (a : atI xs i = some v) (h : Q v H) : rIxA K (.ref p) (.int i) H Q := ⟨p, xs, i, v, rfl, rfl, .inr (SqT.of e), a, h⟩
theorem rd_ixL {p : Addr} {xs : List V} {i : Int} {v : V} (e : H p = some (.lst xs)) (a : atI xs i = some v) (h : Q v H) : rIxA K (.ref p) (.int i) H Q := ⟨p, xs, i, v, rfl, rfl, .inl (SqL.of e), a, h⟩
theorem rd_chain {r r' : R2} {ta tb tc : TE} (h : ta σ H fun x H1 => tb σ H1 fun y H2 => r x y H2 fun z H3 => ∃ k, z = .bl k ∧ (if k = true then tc σ H3 fun w' H4 => r' y w' H4 Q else Q (.bl false) H3)) : tChain r r' ta tb tc σ H Q := h
theorem ifT {b : Bool} {A B : Prop} (h : b = true) (x : A) : if b = true then A else B := by rw [if_pos h]; exact x
theorem ifF {b : Bool} {A B : Prop} (h : b = false) (x : B) : if b = true then A else B := by rw [if_neg (by rw [h]; exact Bool.false_ne_true)]; exact x
theorem ifB {b : Bool} {A B : Prop} (h1 : b = true → A) (h0 : b = false → B) : if b = true then A else B := by
  cases b with
  | true => rw [if_pos rfl]; exact h1 rfl
  | false => rw [if_neg Bool.false_ne_true]; exact h0 rfl
theorem rd_isN {x : V} (h : Q (.bl (decide (x = .non))) H) : rIsN x .non H Q := ⟨rfl, h⟩
theorem rd_notN {x : V} (h : Q (.bl (!decide (x = .non))) H) : rNotN x .non H Q := ⟨rfl, h⟩
theorem rd_isBool {x : V} {d : PyData} (hx : Is H x d) (h : Q (.bl (isBoolD d)) H) : rIsinst [x, .ty "bool"] H Q := ⟨x, "bool", d, rfl, by decide, hx, by cases d <;> exact h⟩
theorem rd_isInt {x : V} {d : PyData} (hx : Is H x d) (h : Q (.bl (isIntD d)) H) : rIsinst [x, .ty "int"] H Q := ⟨x, "int", d, rfl, by decide, hx, by cases d <;> exact h⟩
theorem rd_isTup {x : V} {d : PyData} (hx : Is H x d) (h : Q (.bl (isTupD d)) H) : rIsinst [x, .ty "tuple"] H Q := ⟨x, "tuple", d, rfl, by decide, hx, by cases d <;> exact h⟩
theorem rd_isLst {x : V} {d : PyData} (hx : Is H x d) (h : Q (.bl (isLstD d)) H) : rIsinst [x, .ty "list"] H Q := ⟨x, "list", d, rfl, by decide, hx, by cases d <;> exact h⟩
theorem rd_isStr {x : V} {d : PyData} (hx : Is H x d) (h : Q (.bl (isStrD d)) H) : rIsinst [x, .ty "str"] H Q := ⟨x, "str", d, rfl, by decide, hx, by cases d <;> exact h⟩
theorem ifNT {A B : Prop} (h : B) : if (!true) = true then A else B := iteF h
theorem ifNF {A B : Prop} (h : A) : if (!false) = true then A else B := iteT h
theorem rd_all {p : Addr} {bs : List Bool} (e : H p = some (.lst (bs.map V.bl))) (h : Q (.bl (bs.all id)) H) : rAll K [.ref p] H Q := ⟨p, bs, rfl, SqL.of e, h⟩
theorem rd_any {p : Addr} {bs : List Bool} (e : H p = some (.lst (bs.map V.bl))) (h : Q (.bl (bs.any id)) H) : rAny K [.ref p] H Q := ⟨p, bs, rfl, SqL.of e, h⟩
theorem rd_max2 {i j : Int} (h : Q (.int (if j > i then j else i)) H) : rMax2 [.int i, .int j] H Q := ⟨i, j, rfl, h⟩
theorem rd_int1 {k : Bool} (h : Q (.int (if k then 1 else 0)) H) : rInt1 [.bl k] H Q := .inr ⟨k, rfl, h⟩
theorem rd_tupL {p : Addr} {ys : List V} (e : H p = some (.lst ys)) (h : ∀ l, H l = none → Q (.ref l) (upd H l (.tup ys))) : rTupOf K [.ref p] H Q := ⟨p, ys, rfl, .inl ⟨SqL.of e, h⟩⟩
theorem rd_eqD {neg : Bool} {x y : V} {d e : PyData} (hx : Is H x d) (hy : Is H y e) (od : okD d) (oe : okD e) (h : Q (.bl (if neg then !PyData.eqv d e else PyData.eqv d e)) H) : rEqD neg x y H Q := ⟨d, e, hx, hy, od, oe, h⟩
theorem rd_eqI {x y : Int} (h : Q (.bl (x == y)) H) : rEqD false (.int x) (.int y) H Q := ⟨.int x, .int y, .int x, .int y, ⟨rfl, Nat.zero_le _⟩, ⟨rfl, Nat.zero_le _⟩, h⟩
theorem rd_neI {x y : Int} (h : Q (.bl (!(x == y))) H) : rEqD true (.int x) (.int y) H Q := ⟨.int x, .int y, .int x, .int y, ⟨rfl, Nat.zero_le _⟩, ⟨rfl, Nat.zero_le _⟩, h⟩
theorem rd_eqB {x y : Bool} (h : Q (.bl (x == y)) H) : rEqD false (.bl x) (.bl y) H Q := ⟨.bool x, .bool y, .bl x, .bl y, ⟨rfl, Nat.zero_le _⟩, ⟨rfl, Nat.zero_le _⟩, h⟩
theorem rd_neB {x y : Bool} (h : Q (.bl (!(x == y))) H) : rEqD true (.bl x) (.bl y) H Q := ⟨.bool x, .bool y, .bl x, .bl y, ⟨rfl, Nat.zero_le _⟩, ⟨rfl, Nat.zero_le _⟩, h⟩
theorem rd_inD {neg : Bool} {x y : V} {d : PyData} {ds : List PyData} (hx : Is H x d) (hy : Is H y (.tuple ds)) (od : okD d) (oe : okDs ds) (h : Q (.bl (if neg then !inD d ds else inD d ds)) H) : rInD neg x y H Q := ⟨d, ds, hx, .inl hy, od, oe, h⟩
theorem rd_lenT {p : Addr} {xs : List V} (e : H p = some (.tup xs)) (h : Q (.int xs.length) H) : rLen K [.ref p] H Q := ⟨p, xs, rfl, .inr (SqT.of e), h⟩
theorem rd_lenL {p : Addr} {xs : List V} (e : H p = some (.lst xs)) (h : Q (.int xs.length) H) : rLen K [.ref p] H Q := ⟨p, xs, rfl, .inl (SqL.of e), h⟩
end
end L2

set_option Elab.async false
set_option linter.all false
set_option maxRecDepth 100000
set_option maxHeartbeats 1000000
namespace L2
open PySem PySem.Spec PyProof.Rows
section
variable {σ : St} {H : Hp} {Q : VK} {D : Ends} {K : PySem.W.Frag} {R : It → Hp → Prop}
theorem rd_for {wi : TI} {g : TG} {tb : TS} (h : wi σ H fun J H1 => ∃ W : Nat → Nat → St → Hp → Prop, (∃ m, W 0 m σ H1) ∧ ∀ i m σ H, W i m σ H →
  (J.stop i H ∧ D.nx σ H) ∨ (J.go i H ∧ ∃ N : St → Hp → Prop, (∀ σ' H', N σ' H' → ∃ m', m' < m ∧ W (i + 1) m' σ' H') ∧ ∀ x H', J.yld i H x H' → g x σ H' fun σ2 H2 => tb { D with nx := N, ct := N, bk := D.nx } σ2 H2)) : tFor wi g tb D σ H := h
theorem rd_lc {wi : TI} {fm : List (Option Nat)} {g : TG} {tt : TT} {te : TE} (h : wi σ H fun J H1 => ∃ W : Nat → Nat → List V → Hp → Prop, (∃ m, W 0 m [] H1) ∧ ∀ i m ys H, W i m ys H →
  (J.stop i H ∧ ∀ p, H p = none → Q (.ref p) (upd H p (.lst ys))) ∨
  (J.go i H ∧ ys.length < sizeLine ∧ ∃ N : List V → Hp → Prop, (∀ ys' H', N ys' H' → ∃ m', m' < m ∧ W (i + 1) m' ys' H') ∧
    ∀ x H', J.yld i H x H' → g x (fmSt fm σ) H' fun σ2 H2 => tt σ2 H2 fun ok H3 => if ok = true then te σ2 H3 fun v H4 => N (ys ++ [v]) H4 else N ys H3)) : tLC wi fm g tt te σ H Q := h
theorem rd_rng1 {ta : TA} (h : ta σ H fun vs H1 => ∃ j : Int, vs = [.int j] ∧ -(2 ^ 62) ≤ j ∧ j < 2 ^ 62 ∧ R (Itr 0 j.toNat) H1) : iRng1 ta σ H R := h
theorem rd_itup {tl : TE} (h : tl σ H fun x H1 => ∃ a, x = .ref a ∧ (∃ xs, SqT K H1 a xs) ∧ R (Itt K a) H1) : iTup K tl σ H R := h
theorem rd_ilst {tl : TE} (h : tl σ H fun x H1 => ∃ a, x = .ref a ∧ (∃ xs, SqL K H1 a xs) ∧ R (Itl K a) H1) : iList K tl σ H R := h
theorem rd_yes {P : Bool → Hp → Prop} (h : P true H) : tYes σ H P := h
theorem rd_gtup {n : Nat} {t : TGs} {a : Addr} {xs : List V} {P : St → Hp → Prop} (e : H a = some (.tup xs)) (l : xs.length = n) (h : t xs σ H P) : gTup K n t (.ref a) σ H P := ⟨a, xs, rfl, SqT.of e, l, h⟩
theorem rd_gcons {t : TG} {u : TGs} {v : V} {r : List V} {P : St → Hp → Prop} (h : t v σ H fun σ' H' => u r σ' H' P) : gCons t u (v :: r) σ H P := ⟨v, r, rfl, h⟩
theorem rd_gnil {P : St → Hp → Prop} (h : P σ H) : gNil [] σ H P := ⟨rfl, h⟩
end
/-! ### heaps that only grew -/
theorem Same.upd {H : Hp} {l : Addr} {o : HO} (h : H l = none) : Same H (upd H l o) := fun b u e => by rw [upd_ne (ne_of_none e h)]; exact e
theorem Same.tup {H H' : Hp} (e : Same H H') {a : Addr} {xs : List V} (h : H a = some (.tup xs)) : H' a = some (.tup xs) := e _ _ h
/-- a new pair -/
theorem Is.pair {H : Hp} {p : Addr} {i j : Int} : Is (upd H p (.tup [.int i, .int j])) (.ref p) (.tuple [.int i, .int j]) := .tup upd_same (.cons (.int i) (.cons (.int j) .nil))
end L2

set_option Elab.async false
set_option linter.all false
set_option maxRecDepth 100000
set_option maxHeartbeats 1000000
namespace L2
open PySem PySem.Spec PyProof.Rows
/-! ### the same rules, the text's own part named: within a block it must be the frame's -/
section
variable {X : Cx}
theorem k_ix (K : PySem.W.Frag) (h : X.K = K := by rfl) : IxR X (rIxA K) := h ▸ ix_any
theorem k_len (K : PySem.W.Frag) (h : X.K = K := by rfl) : CallR X (.builtin "len") (rLen K) := h ▸ c_len
theorem k_all (K : PySem.W.Frag) (hc : X.calm = true := by rfl) (h : X.K = K := by rfl) : CallR X (.builtin "all") (rAll K) := h ▸ c_all hc
theorem k_tuple (K : PySem.W.Frag) (h : X.K = K := by rfl) : CallR X (.type "tuple") (rTupOf K) := h ▸ c_tuple
theorem k_list (K : PySem.W.Frag) (h : X.K = K := by rfl) : CallR X (.type "list") (rLstOf K) := h ▸ c_list
theorem k_sorted (K : PySem.W.Frag) (h : X.K = K := by rfl) : CallR X (.builtin "sorted") (rSorted K) := h ▸ call_sorted
theorem k_ltT (K : PySem.W.Frag) (hu : X.A.units < cLine) (h : X.K = K := by rfl) : OpR X (compareOp .Lt) (rLtT K) := h ▸ op_ltT hu
theorem k_slL (K : PySem.W.Frag) (h : X.K = K := by rfl) : SlR X (rSlL K) := h ▸ sl_list
theorem k_ptup (K : PySem.W.Frag) {tg l : Expr} {tl : TE} (hl : PE X l tl) (h : X.K = K := by rfl) : PI X tg l (iTup K tl) := h ▸ pi_tup hl
theorem k_plst (K : PySem.W.Frag) {tg l : Expr} {tl : TE} (hl : PE X l tl) (h : X.K = K := by rfl) : PI X tg l (iList K tl) := h ▸ pi_list hl
theorem k_gtup (K : PySem.W.Frag) {pos : Pos} {es : List Expr} {k : Nat} {t : TGs} {n : Nat} (hc : X.calm = true) (hh : PGs X es t)
    (hn : (assignEach es X.env).length = n := by rfl) (hst : (assignEach es X.env).findIdx? (·.1) = none := by rfl) (h : X.K = K := by rfl) : PG X (.Tuple es k pos) (gTup K n t) := h ▸ pg_tup hc hh hn hst
theorem k_bm (K : PySem.W.Frag) {o e : Expr} {es : List Expr} {to : TE} {t : TA} {name : Str} {apos cpos : Pos} {T id : String} {r : V → List V → Hp → VK → Prop} (pa : PlainAttrs T) (slot : Slot T name id) (hty : typeOf (.builtin id) = pure (.type "method_descriptor")) (hm : MtR X id r) (ho : PE X o to) (ha : PA X (e :: es) t)
    (hbase : attributeBase o name X.env (eval o X.env) = eval o X.env := by rfl)
    (hfew : ((backTo cpos (starEach (e :: es) X.env)).all (fun x => !x.1) && (backToKw cpos (keywordEach [] X.env)).all (fun x => x.1.isSome)
      && decide ((e :: es).length + ([] : List Keyword).length + (if ([] : List Keyword).isEmpty then 0 else 1) < 30)) = true := by rfl)
    (hline : (apos.endLine == cpos.line) = true := by rfl) (hs : starEach (e :: es) X.env = (false, eval e X.env) :: starEach es X.env := by rfl) (hplain : (backTo cpos (starEach es X.env)).any (·.1) = false := by rfl) (h : X.K = K := by rfl) :
    PE X (.Call (.Attribute o name apos) (e :: es) [] cpos) (tBM K T r to t) := h ▸ pe_bm pa slot hty hm ho ha hbase hfew hline hs hplain
end
section
variable {σ : St} {H : Hp} {Q : VK} {D : Ends} {K : PySem.W.Frag}
theorem rd_ltT {a b : Addr} {i j k l : Int} (h1 : H a = some (.tup [.int i, .int j])) (h2 : H b = some (.tup [.int k, .int l])) (h : Q (.bl (HT.lexLt [i, j] [k, l])) H) : rLtT K (.ref a) (.ref b) H Q :=
  ⟨a, b, [i, j], [k, l], rfl, rfl, SqT.of h1, SqT.of h2, h⟩
theorem rd_bm {T : String} {r : V → List V → Hp → VK → Prop} {to : TE} {t : TA} (h : to σ H fun x H1 => tyV K T x H1 ∧ t σ H1 fun xs H2 => r x xs H2 Q) : tBM K T r to t σ H Q := h
/-- xs.append(v) -/
theorem rd_append {l : Addr} {xs : List V} {v : V} (e : H l = some (.lst xs)) (hz : xs.length < sizeLine) (h : Q .non (upd H l (.lst (xs ++ [v])))) : rAppend (.ref l) [v] H Q := ⟨l, xs, v, rfl, rfl, e, hz, h⟩
theorem tyV_lst {l : Addr} {xs : List V} (e : H l = some (.lst xs)) : tyV K "list" (.ref l) H := .inl ⟨rfl, _, SqL.of e⟩
end
/-! ### is None -/
theorem if_nn {A B : Prop} (h : A) : if decide (V.non = V.non) = true then A else B := by rw [decide_eq_true rfl]; exact iteT h
theorem if_rn {a : Addr} {A B : Prop} (h : B) : if decide (V.ref a = V.non) = true then A else B := by rw [decide_eq_false (fun z => nomatch z)]; exact iteF h
theorem if_in {a : Int} {A B : Prop} (h : B) : if decide (V.int a = V.non) = true then A else B := by rw [decide_eq_false (fun z => nomatch z)]; exact iteF h
theorem if_nnN {A B : Prop} (h : B) : if (!decide (V.non = V.non)) = true then A else B := by rw [decide_eq_true rfl]; exact iteF h
theorem if_rnN {a : Addr} {A B : Prop} (h : A) : if (!decide (V.ref a = V.non)) = true then A else B := by rw [decide_eq_false (fun z => nomatch z)]; exact iteT h
theorem if_inN {a : Int} {A B : Prop} (h : A) : if (!decide (V.int a = V.non)) = true then A else B := by rw [decide_eq_false (fun z => nomatch z)]; exact iteT h
section
variable {σ : St} {H : Hp} {Q : VK} {D : Ends}
theorem rd_while {c : TT} {tb : TS} (h : ∃ W : Nat → St → Hp → Prop, (∃ m, W m σ H) ∧ ∀ m σ H, W m σ H → c σ H fun b H1 => if b = true then ∃ N : St → Hp → Prop, (∀ σ' H', N σ' H' → ∃ m', m' < m ∧ W m' σ' H') ∧ tb { D with nx := N, ct := N, bk := D.nx } σ H1 else D.nx σ H1) : tWhile c tb D σ H := h
theorem rd_gsub {to ti : TE} {t : TSet} {v : V} {P : St → Hp → Prop} (h : to σ H fun o H1 => ti σ H1 fun i H2 => t o i v H2 fun H3 => P σ H3) : gSub to ti t v σ H P := h
theorem ixN_of {n j : Nat} {k : Int} (hk : k = (j : Int)) (hj : j < n) : ixN n k = some j := by
  subst hk
  unfold ixN
  rw [if_pos (Int.natCast_nonneg _), if_pos (by omega), Int.toNat_natCast]
theorem rd_setL {p : Addr} {xs : List V} {k : Int} {j : Nat} {v : V} {P : Hp → Prop} (e : H p = some (.lst xs)) (hk : k = (j : Int)) (hj : j < xs.length) (h : P (upd H p (.lst (xs.set j v)))) : rSetL (.ref p) (.int k) v H P := ⟨p, xs, k, j, rfl, rfl, e, ixN_of hk hj, h⟩
theorem rep_one {α : Type} (x : α) : ∀ n : Nat, (List.replicate n [x]).flatten = List.replicate n x
  | 0 => rfl
  | n + 1 => by rw [List.replicate_succ, List.flatten_cons, rep_one x n]; rfl
theorem rd_rep {l : Addr} {v : V} {n : Nat} (e : H l = some (.lst [v])) (hn : n ≤ 1000) (h : ∀ p, H p = none → Q (.ref p) (upd H p (.lst (List.replicate n v)))) : rRep (.ref l) (.int n) H Q :=
  ⟨l, n, [v], rfl, rfl, e, by omega, by omega, by rw [Int.toNat_natCast]; have := small1000 hn; simp; omega, fun p hp => by rw [Int.toNat_natCast, rep_one]; exact h p hp⟩
end
/-! ### loops and comprehensions by a word, whatever the body reads -/
section
variable {H : Hp} {K : PySem.W.Frag}
theorem lp_range {lo : Int} {n : Nat} {G : List V → Hp → Prop} {B : (List V → Hp → Prop) → List V → V → Hp → Prop} (hn : n ≤ sizeLine) (Pv : Nat → List V → Hp → Prop) (h0 : Pv 0 [] H) (hlen : ∀ i ys H, Pv i ys H → ys.length ≤ i)
    (hs : ∀ i ys H, i < n → Pv i ys H → B (Pv (i + 1)) ys (.int (lo + i)) H) (hd : ∀ ys H, Pv n ys H → G ys H) :
    ∃ W : Nat → Nat → List V → Hp → Prop, (∃ m, W 0 m [] H) ∧ ∀ i m ys H, W i m ys H → ((Itr lo n).stop i H ∧ G ys H) ∨ ((Itr lo n).go i H ∧ ys.length < sizeLine ∧
      ∃ N : List V → Hp → Prop, (∀ ys' H', N ys' H' → ∃ m', m' < m ∧ W (i + 1) m' ys' H') ∧ ∀ x H', (Itr lo n).yld i H x H' → B N ys x H') := by
  refine ⟨fun i m ys H => m = n - i ∧ i ≤ n ∧ Pv i ys H, ⟨n, by simp, Nat.zero_le _, h0⟩, ?_⟩
  rintro i m ys H ⟨rfl, hi, p⟩
  have hl := hlen i ys H p
  by_cases hlt : i < n
  · refine .inr ⟨hlt, by omega, Pv (i + 1), fun ys' H' p' => ⟨n - (i + 1), by omega, rfl, hlt, p'⟩, fun x H' y => ?_⟩
    obtain ⟨e, y⟩ := y
    subst e y
    exact hs i ys _ hlt p
  · have e : i = n := by omega
    subst e
    exact .inl ⟨Nat.le_refl _, hd ys H p⟩
theorem lp_tup {a : Addr} {xs : List V} {G : List V → Hp → Prop} {B : (List V → Hp → Prop) → List V → V → Hp → Prop} (hn : xs.length ≤ sizeLine) (Pv : Nat → List V → Hp → Prop) (h0 : Pv 0 [] H) (hlen : ∀ i ys H, Pv i ys H → ys.length ≤ i)
    (hl : ∀ i ys H, i ≤ xs.length → Pv i ys H → SqT K H a xs) (hs : ∀ i x ys H, xs[i]? = some x → Pv i ys H → B (Pv (i + 1)) ys x H) (hd : ∀ ys H, Pv xs.length ys H → G ys H) :
    ∃ W : Nat → Nat → List V → Hp → Prop, (∃ m, W 0 m [] H) ∧ ∀ i m ys H, W i m ys H → ((Itt K a).stop i H ∧ G ys H) ∨ ((Itt K a).go i H ∧ ys.length < sizeLine ∧
      ∃ N : List V → Hp → Prop, (∀ ys' H', N ys' H' → ∃ m', m' < m ∧ W (i + 1) m' ys' H') ∧ ∀ x H', (Itt K a).yld i H x H' → B N ys x H') := by
  refine ⟨fun i m ys H => m = xs.length - i ∧ i ≤ xs.length ∧ Pv i ys H, ⟨xs.length, by simp, Nat.zero_le _, h0⟩, ?_⟩
  rintro i m ys H ⟨rfl, hi, p⟩
  have hly := hlen i ys H p
  have q := hl i ys H hi p
  by_cases hlt : i < xs.length
  · refine .inr ⟨⟨xs, xs[i], q, by simp [hlt]⟩, by omega, Pv (i + 1), fun ys' H' p' => ⟨xs.length - (i + 1), by omega, rfl, hlt, p'⟩, fun x H' y => ?_⟩
    obtain ⟨e, y⟩ := y
    subst e
    exact hs i x ys _ (y xs q) p
  · have e : i = xs.length := by omega
    subst e
    exact .inl ⟨⟨xs, q, Nat.le_refl _⟩, hd ys H p⟩
theorem lp_list {a : Addr} {xs : List V} {G : List V → Hp → Prop} {B : (List V → Hp → Prop) → List V → V → Hp → Prop} (hn : xs.length ≤ sizeLine) (Pv : Nat → List V → Hp → Prop) (h0 : Pv 0 [] H) (hlen : ∀ i ys H, Pv i ys H → ys.length ≤ i)
    (hl : ∀ i ys H, i ≤ xs.length → Pv i ys H → SqL K H a xs) (hs : ∀ i x ys H, xs[i]? = some x → Pv i ys H → B (Pv (i + 1)) ys x H) (hd : ∀ ys H, Pv xs.length ys H → G ys H) :
    ∃ W : Nat → Nat → List V → Hp → Prop, (∃ m, W 0 m [] H) ∧ ∀ i m ys H, W i m ys H → ((Itl K a).stop i H ∧ G ys H) ∨ ((Itl K a).go i H ∧ ys.length < sizeLine ∧
      ∃ N : List V → Hp → Prop, (∀ ys' H', N ys' H' → ∃ m', m' < m ∧ W (i + 1) m' ys' H') ∧ ∀ x H', (Itl K a).yld i H x H' → B N ys x H') := by
  refine ⟨fun i m ys H => m = xs.length - i ∧ i ≤ xs.length ∧ Pv i ys H, ⟨xs.length, by simp, Nat.zero_le _, h0⟩, ?_⟩
  rintro i m ys H ⟨rfl, hi, p⟩
  have hly := hlen i ys H p
  have q := hl i ys H hi p
  by_cases hlt : i < xs.length
  · refine .inr ⟨⟨xs, xs[i], q, by simp [hlt]⟩, by omega, Pv (i + 1), fun ys' H' p' => ⟨xs.length - (i + 1), by omega, rfl, hlt, p'⟩, fun x H' y => ?_⟩
    obtain ⟨e, y⟩ := y
    subst e
    exact hs i x ys _ (y xs q) p
  · have e : i = xs.length := by omega
    subst e
    exact .inl ⟨⟨xs, q, Nat.le_refl _⟩, hd ys H p⟩
theorem fp_range {σ : St} {lo : Int} {n : Nat} {G : St → Hp → Prop} {B : (St → Hp → Prop) → V → St → Hp → Prop} (Pv : Nat → St → Hp → Prop) (h0 : Pv 0 σ H) (hs : ∀ i σ H, i < n → Pv i σ H → B (Pv (i + 1)) (.int (lo + i)) σ H) (hd : ∀ σ H, Pv n σ H → G σ H) :
    ∃ W : Nat → Nat → St → Hp → Prop, (∃ m, W 0 m σ H) ∧ ∀ i m σ H, W i m σ H → ((Itr lo n).stop i H ∧ G σ H) ∨ ((Itr lo n).go i H ∧
      ∃ N : St → Hp → Prop, (∀ σ' H', N σ' H' → ∃ m', m' < m ∧ W (i + 1) m' σ' H') ∧ ∀ x H', (Itr lo n).yld i H x H' → B N x σ H') := by
  refine ⟨fun i m σ H => m = n - i ∧ i ≤ n ∧ Pv i σ H, ⟨n, by simp, Nat.zero_le _, h0⟩, ?_⟩
  rintro i m σ H ⟨rfl, hi, p⟩
  by_cases hlt : i < n
  · refine .inr ⟨hlt, Pv (i + 1), fun σ' H' p' => ⟨n - (i + 1), by omega, rfl, hlt, p'⟩, fun x H' y => ?_⟩
    obtain ⟨e, y⟩ := y
    subst e y
    exact hs i σ _ hlt p
  · have e : i = n := by omega
    subst e
    exact .inl ⟨Nat.le_refl _, hd σ H p⟩
theorem fp_tup {σ : St} {a : Addr} {xs : List V} {G : St → Hp → Prop} {B : (St → Hp → Prop) → V → St → Hp → Prop} (Pv : Nat → St → Hp → Prop) (h0 : Pv 0 σ H) (hl : ∀ i σ H, i ≤ xs.length → Pv i σ H → SqT K H a xs)
    (hs : ∀ i x σ H, xs[i]? = some x → Pv i σ H → B (Pv (i + 1)) x σ H) (hd : ∀ σ H, Pv xs.length σ H → G σ H) :
    ∃ W : Nat → Nat → St → Hp → Prop, (∃ m, W 0 m σ H) ∧ ∀ i m σ H, W i m σ H → ((Itt K a).stop i H ∧ G σ H) ∨ ((Itt K a).go i H ∧
      ∃ N : St → Hp → Prop, (∀ σ' H', N σ' H' → ∃ m', m' < m ∧ W (i + 1) m' σ' H') ∧ ∀ x H', (Itt K a).yld i H x H' → B N x σ H') := by
  refine ⟨fun i m σ H => m = xs.length - i ∧ i ≤ xs.length ∧ Pv i σ H, ⟨xs.length, by simp, Nat.zero_le _, h0⟩, ?_⟩
  rintro i m σ H ⟨rfl, hi, p⟩
  have q := hl i σ H hi p
  by_cases hlt : i < xs.length
  · refine .inr ⟨⟨xs, xs[i], q, by simp [hlt]⟩, Pv (i + 1), fun σ' H' p' => ⟨xs.length - (i + 1), by omega, rfl, hlt, p'⟩, fun x H' y => ?_⟩
    obtain ⟨e, y⟩ := y
    subst e
    exact hs i x σ _ (y xs q) p
  · have e : i = xs.length := by omega
    subst e
    exact .inl ⟨⟨xs, q, Nat.le_refl _⟩, hd σ H p⟩
theorem fp_list {σ : St} {a : Addr} {xs : List V} {G : St → Hp → Prop} {B : (St → Hp → Prop) → V → St → Hp → Prop} (Pv : Nat → St → Hp → Prop) (h0 : Pv 0 σ H) (hl : ∀ i σ H, i ≤ xs.length → Pv i σ H → SqL K H a xs)
    (hs : ∀ i x σ H, xs[i]? = some x → Pv i σ H → B (Pv (i + 1)) x σ H) (hd : ∀ σ H, Pv xs.length σ H → G σ H) :
    ∃ W : Nat → Nat → St → Hp → Prop, (∃ m, W 0 m σ H) ∧ ∀ i m σ H, W i m σ H → ((Itl K a).stop i H ∧ G σ H) ∨ ((Itl K a).go i H ∧
      ∃ N : St → Hp → Prop, (∀ σ' H', N σ' H' → ∃ m', m' < m ∧ W (i + 1) m' σ' H') ∧ ∀ x H', (Itl K a).yld i H x H' → B N x σ H') := by
  refine ⟨fun i m σ H => m = xs.length - i ∧ i ≤ xs.length ∧ Pv i σ H, ⟨xs.length, by simp, Nat.zero_le _, h0⟩, ?_⟩
  rintro i m σ H ⟨rfl, hi, p⟩
  have q := hl i σ H hi p
  by_cases hlt : i < xs.length
  · refine .inr ⟨⟨xs, xs[i], q, by simp [hlt]⟩, Pv (i + 1), fun σ' H' p' => ⟨xs.length - (i + 1), by omega, rfl, hlt, p'⟩, fun x H' y => ?_⟩
    obtain ⟨e, y⟩ := y
    subst e
    exact hs i x σ _ (y xs q) p
  · have e : i = xs.length := by omega
    subst e
    exact .inl ⟨⟨xs, q, Nat.le_refl _⟩, hd σ H p⟩
end
end L2

set_option Elab.async false
set_option linter.all false
set_option maxRecDepth 100000
set_option maxHeartbeats 1000000
namespace L2
open PySem PySem.Spec PyProof.Rows
/-! ### a list of ints == [] -/
noncomputable def rEqNil (K : PySem.W.Frag) : R2 := fun x y H Q => ∃ p q ns, x = .ref p ∧ y = .ref q ∧ SqL K H p (ns.map V.int) ∧ SqL K H q [] ∧ Q (.bl (decide (ns = []))) H
theorem op_eqNil {X : Cx} (hu : X.A.units < cLine) : OpR X (compareOp .Eq) (rEqNil X.K) := by
  intro pins s σ H x y v u Q I rx ry h
  obtain ⟨p, q, ns, rfl, rfl, h1, h2, hq⟩ := h
  cases (show v = Value.ref p from rx)
  cases (show u = Value.ref q from ry)
  obtain ⟨its, r1, p1, _⟩ := I.list h1
  obtain ⟨its2, r2, p2, _⟩ := I.list h2
  have e2 : its2 = [] := by cases r2; rfl
  subst e2
  have hl := r1.length
  rw [List.length_map] at hl
  match ns, hl with
  | [], hl =>
    have e1 : its = [] := by
      have : its.length = 0 := by simpa using hl.symm
      exact List.length_eq_zero_iff.mp this
    subst e1
    exact SeqAt.eq_listAt (e := fun _ => true) p1.isList p2.isList rfl hu (fun j g _ => absurd g (Nat.not_lt_zero _)) ⟨.bl true, H, I, rfl, hq⟩
  | n :: ns, hl =>
    refine SeqAt.eq_list_lengthsAt p1.isList p2.isList ?_ hu ⟨.bl false, H, I, rfl, hq⟩
    have : its.length = ns.length + 1 := by simpa using hl.symm
    simp [this]
theorem k_eqNil {X : Cx} (K : PySem.W.Frag) (hu : X.A.units < cLine) (h : X.K = K := by rfl) : OpR X (compareOp .Eq) (rEqNil K) := h ▸ op_eqNil hu
section
variable {σ : St} {H : Hp} {Q : VK} {K : PySem.W.Frag}
theorem rd_lenS {p : Addr} {xs : List V} (e : SqL K H p xs) (h : Q (.int xs.length) H) : rLen K [.ref p] H Q := ⟨p, xs, rfl, .inl e, h⟩
theorem rd_ixS {p : Addr} {xs : List V} {i : Int} {v : V} (e : SqL K H p xs) (a : atI xs i = some v) (h : Q v H) : rIxA K (.ref p) (.int i) H Q := ⟨p, xs, i, v, rfl, rfl, .inl e, a, h⟩
end
/-- the script as it is handed in: known, never written -/
noncomputable def Scr (K : PySem.W.Frag) (H : Hp) (a : Addr) (ns : List Int) : Prop := (∃ o, H a = some (.frz o (.lst (ns.map V.int)))) ∨
  ∃ (o : Obj) (its : Array Value) (n : Nat), K.lookup a = some o ∧ o.cls = .type "list" ∧ o.dict = none ∧ o.data = .seq its n ∧ its.size ≤ sizeLine ∧ Vals (ns.map V.int) its.toList
theorem Scr.sq {K : PySem.W.Frag} {H : Hp} {a : Addr} {ns : List Int} (h : Scr K H a ns) : SqL K H a (ns.map V.int) := by
  rcases h with ⟨o, h⟩ | h
  · exact .inl (.inr ⟨o, h⟩)
  · exact .inr h
theorem Scr.of {K : PySem.W.Frag} {H : Hp} {a : Addr} {ns : List Int} (hO : Only H) (h : SqL K H a (ns.map V.int)) : Scr K H a ns := by
  rcases h with (h | ⟨o, h⟩) | h
  · rcases hO a with g | ⟨o, xs, g⟩
    · rw [g] at h; cases h
    · rw [g] at h; cases h
  · exact .inl ⟨o, h⟩
  · exact .inr h
/-- all but the list at w is as it was -/
noncomputable def SameT (w : Addr) (H H' : Hp) : Prop := ∀ b u, H b = some u → b ≠ w → H' b = some u
theorem SameT.refl (w : Addr) (H : Hp) : SameT w H H := fun _ _ h _ => h
theorem SameT.trans {w : Addr} {H H1 H2 : Hp} (a : SameT w H H1) (b : SameT w H1 H2) : SameT w H H2 := fun c u h g => b c u (a c u h g) g
theorem Same.t {w : Addr} {H H' : Hp} (h : Same H H') : SameT w H H' := fun b u e _ => h b u e
theorem Scr.t {K : PySem.W.Frag} {H H' : Hp} {w a : Addr} {ns : List Int} {ts : List V} (hw : H w = some (.lst ts)) (s : SameT w H H') (h : Scr K H a ns) : Scr K H' a ns := by
  rcases h with ⟨o, h⟩ | h
  · exact .inl ⟨o, s _ _ h (ne_of h hw (by intro z; cases z))⟩
  · exact .inr h
theorem Scr.same {K : PySem.W.Frag} {H H' : Hp} {a : Addr} {ns : List Int} (s : Same H H') (h : Scr K H a ns) : Scr K H' a ns := by
  rcases h with ⟨o, h⟩ | h
  · exact .inl ⟨o, s _ _ h⟩
  · exact .inr h
end L2

set_option Elab.async false
set_option linter.all false
set_option maxRecDepth 100000
set_option maxHeartbeats 1000000
namespace L2
open PySem PySem.Spec PyProof.Rows
/-! ### t + u, whichever is empty -/
section
variable {σ : St} {H : Hp} {Q : VK} {D : Ends} {K : PySem.W.Frag}
theorem rd_ifE {t : TT} {ta tb : TE} (h : t σ H fun c H1 => if c = true then ta σ H1 Q else tb σ H1 Q) : tIf t ta tb σ H Q := h
theorem rd_cat {a b : Addr} {xs ys : List V} (ha : H a = some (.lst xs)) (hb : H b = some (.lst ys)) (hz : xs.length + ys.length ≤ sizeLine) (h : ∀ p, H p = none → Q (.ref p) (upd H p (.lst (xs ++ ys)))) : rCat (.ref a) (.ref b) H Q :=
  ⟨a, b, xs, ys, rfl, rfl, ha, hb, hz, h⟩
theorem rd_lstT {p : Addr} {ys : List V} (e : H p = some (.tup ys)) (h : ∀ l, H l = none → Q (.ref l) (upd H l (.lst ys))) : rLstOf K [.ref p] H Q := ⟨p, ys, rfl, .inr (SqT.of e), h⟩
theorem rd_lstL {p : Addr} {ys : List V} (e : H p = some (.lst ys)) (h : ∀ l, H l = none → Q (.ref l) (upd H l (.lst ys))) : rLstOf K [.ref p] H Q := ⟨p, ys, rfl, .inl (SqL.of e), h⟩
end
end L2

set_option Elab.async false
set_option linter.all false
set_option maxRecDepth 100000
set_option maxHeartbeats 1000000
namespace L2
open PySem PySem.Spec PyProof.Rows
/-! ### exceptions of own classes: how one lies behind a call -/
structure XEnd (P : Program) (w : World) (outer : List Env) (H : Hp) (s : Shared) (e C t : Addr) (H' : Hp) (B : Heap) (s' : Shared) : Prop where
  os : s'.os = s.os
  bare : AllBare s'.gens
  un : Un (frs outer) [] H H' s.heap s'.heap
  cov : ∀ b o, s.heap.get? b = some o → H b = none → b ∉ frs outer → B.get? b = some o
  thr : ∀ b o, s.heap.get? b = some o → b ∉ frs outer → ∃ o', B.get? b = some o'
  hok : HOk P w H' B
  fl : Heap.FlyingW B outer e (.ref C) (.ref t) s'.heap
section
variable {CX : CXT} {P : Program} {w : World} {K : PySem.W.Frag} {mg : Str → Option Value} {base : Heap} {N : List Str} {qual : Str} {scope : Scope} {f : Addr} {cd : Value} {A : Around} {outer : List Env} {s₀ : Shared} {H₀ : Hp} {E : XK}
  {pins : List (Addr × Obj)} {σ : St} {H : Hp} {s : Shared}
/-! ### raise C(..) -/
abbrev bmV : List Value := [.type "ValueError", .type "Exception", .type "BaseException", .type "object"]
noncomputable def tRaise (E : XK) (C : Addr) (t : TA) : TS := fun _ σ H => t σ H fun vs H1 => vs.length ≤ sizeLine ∧ E (.ref C) none H1
end
end L2

set_option Elab.async false
set_option linter.all false
set_option maxRecDepth 100000
set_option maxHeartbeats 1000000
namespace L2
open PySem PySem.Spec PyProof.Rows
section
variable {P : Program} {w : World} {l : List Env} {H H' : Hp} {s s' : Shared} {e C t : Addr} {B h' : Heap}
theorem XEnd.new (x : XEnd P w l H s e C t H' B s') : s.heap.get? e = none := by
  cases q : s.heap.get? e with
  | none => rfl
  | some o =>
    exfalso
    by_cases nb : e ∈ frs l
    · obtain ⟨_, o3, e3, d3⟩ := x.fl.2.2.1.mem nb
      obtain ⟨oe, vs, he, _, hd, _⟩ := x.fl.first
      rw [e3] at he
      cases he
      exact d3 vs hd
    · obtain ⟨o', e1⟩ := x.thr e o q nb
      rw [x.fl.2.1] at e1
      cases e1
theorem XEnd.free (x : XEnd P w l H s e C t H' B s') : H' e = none := by
  cases q : H' e with
  | none => rfl
  | some o =>
    obtain ⟨u, e1⟩ := (x.hok e o q).there
    rw [x.fl.2.1] at e1
    cases e1
end
section
variable {X : Cx} {pins : List (Addr × Obj)} {σ : St} {H H' : Hp} {s s' : Shared} {e C t : Addr} {B : Heap}
theorem Inv.exc (I : Inv X pins σ H s) (x : XEnd X.prog X.w X.stack H s e C t H' B s') : Inv X pins σ H' s' :=
  I.call' x.os x.un (x.hok.kept x.fl.1) x.bare (fun _ z => nomatch z)
/-! ### within an except suite -/
noncomputable abbrev Cx.pinned (X : Cx) (pn : List (Addr × Obj)) (E1 : Value → Shared → Prop) : Cx := { X with pn := pn, xe := E1 }
theorem Inv.unpn1 {E1 : Value → Shared → Prop} {pins' : List (Addr × Obj)} (I : Inv (X.pinned (X.pn ++ pins) E1) pins' σ H s) : Inv X pins σ H s :=
  ⟨⟨I.ok.mod, I.ok.kind, I.ok.glob, I.ok.blt, I.ok.above, I.ok.inj, I.ok.has, I.ok.cab, I.ok.hd, I.ok.frames, I.ok.stk, I.ok.exf, I.ok.bs, I.ok.bsz, I.ok.noex, I.ok.exfs, I.ok.funs, I.ok.frf⟩, I.os, I.bare, I.base, I.loc, I.cell, I.free, I.freeC, fun p hp => I.pin p (List.mem_append_left _ hp), I.hok, I.len⟩
theorem SP.unpinned {E1 : Value → Shared → Prop} {pins' : List (Addr × Obj)} {D : Ends} {f : Flow} (h : SP (X.pinned (X.pn ++ pins) E1) pins' D f s') : SP X pins D f s' := by
  cases f with
  | next => obtain ⟨σ', H', I, q⟩ := h; exact ⟨σ', H', I.unpn1, q⟩
  | brk => obtain ⟨σ', H', I, q⟩ := h; exact ⟨σ', H', I.unpn1, q⟩
  | cont => obtain ⟨σ', H', I, q⟩ := h; exact ⟨σ', H', I.unpn1, q⟩
  | ret u => obtain ⟨v, σ', H', I, r, q⟩ := h; exact ⟨v, σ', H', I.unpn1, r, q⟩
end
end L2

set_option Elab.async false
set_option linter.all false
set_option maxRecDepth 100000
set_option maxHeartbeats 1000000
namespace L2
open PySem PySem.Spec PyProof.Rows
/-- what is known of an own error class -/
structure ExcC (K : PySem.W.Frag) (C : Addr) : Prop where
  exc : PySem.W.excIn K C bmV "ValueError.__new__" = true
  ga : PySem.W.findIn K (.ref C) "__getattribute__" = some (some (.builtin "BaseException.__getattribute__"))
  gn : PySem.W.findIn K (.ref C) "__getattr__" = some none
  gc : PySem.W.findIn K (.ref C) "__class__" = some (some (.builtin "object.__class__"))
  sb : PySem.W.subIn K (.ref C) (.type "BaseException") = some true
  so : PySem.W.subIn K (.ref C) (.type "object") = some true
  cl : ∃ cd, PySem.W.clsIn K C = some cd
section
variable {prog : Program} {w : World} {A : Around} {E : Value → Shared → Prop} {h : Heap} {g : Array GenState} {d : Drawn} {t : Nat} {os : OsState} {a C : Addr} {o : Obj} {K : PySem.W.Frag}
end
end L2

set_option Elab.async false
set_option linter.all false
set_option maxRecDepth 100000
set_option maxHeartbeats 1000000
namespace L2
open PySem PySem.Spec PyProof.Rows
/-! ### isinstance of a caught exception -/
section
variable {X : Cx}
/-! ### count, index over a list of bools -/
end
/-! ### the answers about classes, out of plain ones -/
/-! ### a call within an except suite -/
structure RoomH (k : Nat) (A : Around) : Prop where
  dp : A.depth + 3 * k + 5 < recursionLimit
  un : A.units + 16 * k + 200 < cLine
theorem RoomH.mono {j k : Nat} {A : Around} (r : RoomH k A) (h : j ≤ k) : RoomH j A := ⟨by have := r.dp; omega, by have := r.un; omega⟩
theorem RoomH.deeper {k : Nat} {A : Around} (r : RoomH (k + 1) A) (env : Env) : RoomH k (A.deeper env) := ⟨by have := r.dp; show A.depth + 1 + 3 * k + 5 < _; omega, by have := r.un; show A.units + 3 + 16 * k + 200 < _; omega⟩
theorem RoomH.units {k : Nat} {A : Around} (r : RoomH k A) : A.units + 64 < cLine := by have := r.un; omega
theorem RoomH.units0 {k : Nat} {A : Around} (r : RoomH k A) : A.units < cLine := by have := r.un; omega
structure FnOkH (P : Program) (w : World) (K : PySem.W.Frag) (mg : Str → Option Value) (base : Heap) (k : Nat) (f : Addr) (fd : FuncData) (ps : List Str) (sp : Sp) : Prop where
  len : ∀ vs H Q E, sp vs H Q E → vs.length = ps.length
  run : ∀ (A : Around) (outer : List Env) (s : Shared) (H : Hp) (args : Args) (us : List Value) (vs : List V) (Q : VK), RoomH k A → Env0 P w K mg base A outer s H → BindsTo s fd args (ps.zip us) → Vals vs us → sp vs H Q E0 →
    codeAny (model P w) A (.call (.ref f) args) (CR CX0 outer P w H s Q E0) s
section
variable {P : Program} {w : World} {K : PySem.W.Frag} {mg : Str → Option Value} {base : Heap}
end
section
variable {X : Cx} {k : Nat} {f : Addr} {fd : FuncData} {ps : List Str} {sp : Sp} {x : Str} {p pos : Pos} {e : Expr} {es : List Expr} {t : TA}
end
section
variable {σ : St} {H : Hp} {Q : VK} {D : Ends} {K : PySem.W.Frag}
theorem rd_raise {E : XK} {C : Addr} {t : TA} (h : t σ H fun vs H1 => vs.length ≤ sizeLine ∧ E (.ref C) none H1) : tRaise E C t D σ H := h
end
end L2

set_option Elab.async false
set_option linter.all false
set_option maxRecDepth 100000
set_option maxHeartbeats 1000000
namespace L2
open PySem PySem.Spec PyProof.Rows
/-! ### written things: tuples and lists of constants, however deep -/
/-- v is d in each heap that keeps what is new in H' -/
noncomputable def Fresh (H H' : Hp) (v : V) (d : PyData) : Prop := ∀ H2 : Hp, (∀ a u, H a = none → H' a = some u → H2 a = some u) → Is H2 v d
inductive FreshAll (H H' : Hp) : List V → List PyData → Prop
  | nil : FreshAll H H' [] []
  | cons {v : V} {d : PyData} {vs : List V} {ds : List PyData} : Fresh H H' v d → FreshAll H H' vs ds → FreshAll H H' (v :: vs) (d :: ds)
theorem Fresh.mono {H H1 H2 H3 : Hp} {v : V} {d : PyData} (s1 : Same H H1) (s2 : Same H2 H3) (h : Fresh H1 H2 v d) : Fresh H H3 v d := fun K k => h K fun a u n e => k a u (by
  cases q : H a with
  | none => rfl
  | some w => rw [s1 _ _ q] at n; cases n) (s2 _ _ e)
theorem FreshAll.mono {H H1 H2 H3 : Hp} (s1 : Same H H1) (s2 : Same H2 H3) : ∀ {vs : List V} {ds : List PyData}, FreshAll H1 H2 vs ds → FreshAll H H3 vs ds
  | _, _, .nil => .nil
  | _, _, .cons h t => .cons (h.mono s1 s2) (t.mono s1 s2)
theorem FreshAll.length {H H' : Hp} : ∀ {vs : List V} {ds : List PyData}, FreshAll H H' vs ds → vs.length = ds.length
  | _, _, .nil => rfl
  | _, _, .cons _ t => by rw [List.length_cons, List.length_cons, t.length]
theorem FreshAll.is {H H' H2 : Hp} (k : ∀ a u, H a = none → H' a = some u → H2 a = some u) : ∀ {vs : List V} {ds : List PyData}, FreshAll H H' vs ds → IsAll H2 vs ds
  | _, _, .nil => .nil
  | _, _, .cons h t => .cons (h H2 k) (t.is k)
theorem FreshAll.mem {H H' : Hp} : ∀ {vs : List V} {ds : List PyData} {v : V}, FreshAll H H' vs ds → v ∈ vs → ∃ d ∈ ds, Fresh H H' v d
  | _, _, _, .nil, h => nomatch h
  | _, _, _, .cons h t, hv => by
    rcases List.mem_cons.mp hv with rfl | hv
    · exact ⟨_, List.mem_cons_self, h⟩
    · obtain ⟨d, hd, f⟩ := t.mem hv
      exact ⟨d, List.mem_cons_of_mem _ hd, f⟩
noncomputable def tLit (d : PyData) : TE := fun _ H Q => ∀ v H', Same H H' → Fresh H H' v d → Q v H'
noncomputable def tLits (ds : List PyData) : TA := fun _ H P => ∀ vs H', Same H H' → FreshAll H H' vs ds → P vs H'
section
variable {X : Cx} {e : Expr} {es : List Expr} {pos : Pos} {d : PyData} {ds : List PyData}
theorem PE.imp {t t' : TE} (h : PE X e t) (k : ∀ σ H Q, t' σ H Q → t σ H Q) : PE X e t' := fun pins s σ H Q I q => h pins s σ H Q I (k σ H Q q)
theorem PA.imp {t t' : TA} (h : PA X es t) (k : ∀ σ H Q, t' σ H Q → t σ H Q) : PA X es t' := fun pos pins s σ H Q I q => h pos pins s σ H Q I (k σ H Q q)
theorem pl_int {i : Int} {j} : PE X (.Constant (.int i) j pos) (tLit (.int i)) := pe_int.imp fun _ H Q q => q _ H (Same.refl H) fun _ _ => .int i
theorem pl_bl {b : Bool} {j} : PE X (.Constant (.bool b) j pos) (tLit (.bool b)) := pe_bl.imp fun _ H Q q => q _ H (Same.refl H) fun _ _ => .bl b
theorem pl_non {j} : PE X (.Constant .none j pos) (tLit .none) := pe_non.imp fun _ H Q q => q _ H (Same.refl H) fun _ _ => .non
theorem pl_str {x : Str} {j} : PE X (.Constant (.str x) j pos) (tLit (.str x)) := pe_str.imp fun _ H Q q => q _ H (Same.refl H) fun _ _ => .str x
theorem pl_neg {i : Int} {j p2} : PE X (.UnaryOp .USub (.Constant (.int i) j p2) pos) (tLit (.int (-i))) := (pe_un un_neg pe_int).imp fun _ H Q q => ⟨i, rfl, q _ H (Same.refl H) fun _ _ => .int (-i)⟩
theorem pls_nil : PA X [] (tLits []) := pa_nil.imp fun _ H P q => q [] H (Same.refl H) .nil
theorem pls_cons (ha : PE X e (tLit d)) (hr : PA X es (tLits ds)) (hs : starEach (e :: es) X.env = (false, eval e X.env) :: starEach es X.env := by rfl) : PA X (e :: es) (tLits (d :: ds)) :=
  (pa_cons ha hr hs).imp fun _ H P q v H1 s1 f1 vs H2 s2 f2 => q (v :: vs) H2 (s1.trans s2) (.cons (f1.mono (Same.refl _) s2) (f2.mono s1 (Same.refl _)))
theorem pl_tup {x1} (h : PA X es (tLits ds)) (hz : ds.length ≤ sizeLine := by decide) : PE X (.Tuple es x1 pos) (tLit (.tuple ds)) :=
  (pe_tup h).imp fun _ H Q q vs H1 s1 f1 => ⟨by rw [f1.length]; exact hz, fun p hp => q _ _ (s1.trans (Same.upd hp)) fun H2 k => .tup (k p _ (by
    cases e : H p with
    | none => rfl
    | some u => rw [s1 _ _ e] at hp; cases hp) upd_same) (f1.is fun a u n e => k a u n (by rw [upd_ne (ne_of_none e hp)]; exact e))⟩
theorem pl_lst (h : PA X es (tLits ds)) (hz : ds.length ≤ sizeLine := by decide) : PE X (.List es pos) (tLit (.list ds)) :=
  (pe_lst h).imp fun _ H Q q vs H1 s1 f1 => ⟨by rw [f1.length]; exact hz, fun p hp => q _ _ (s1.trans (Same.upd hp)) fun H2 k => .lst (Rd.of (k p _ (by
    cases e : H p with
    | none => rfl
    | some u => rw [s1 _ _ e] at hp; cases hp) upd_same)) (f1.is fun a u n e => k a u n (by rw [upd_ne (ne_of_none e hp)]; exact e))⟩
end
/-! ### one of several defs, drawn out of a list, is called -/
inductive CallL (X : Cx) (E : XK) : List (Addr × Sp) → Prop
  | nil : CallL X E []
  | cons {CX : CXT} {k : Nat} {f : Addr} {fd : FuncData} {ps : List Str} {sp : Sp} {l : List (Addr × Sp)} (F : FnOk X.prog X.w X.K X.mg X.base CX k f fd ps sp) (hr : Room k X.A) (hk : PySem.W.keepIn X.K (.ref f) = true) (hb : Binds X.K fd ps []) (hx : Passes CX X E) (r : CallL X E l) : CallL X E ((f, sp) :: l)
theorem CallL.get {X : Cx} {E : XK} : ∀ {l : List (Addr × Sp)} {i : Nat} {f : Addr} {sp : Sp}, CallL X E l → l[i]? = some (f, sp) → ∃ (CX : CXT) (k : Nat) (fd : FuncData) (ps : List Str), FnOk X.prog X.w X.K X.mg X.base CX k f fd ps sp ∧ Room k X.A ∧ PySem.W.keepIn X.K (.ref f) = true ∧ Binds X.K fd ps [] ∧ Passes CX X E
  | _, _, _, _, .nil, e => by simp at e
  | _, 0, _, _, .cons F hr hk hb hx r, e => by simp at e; obtain ⟨rfl, rfl⟩ := e; exact ⟨_, _, _, _, F, hr, hk, hb, hx⟩
  | _, i + 1, _, _, .cons F hr hk hb hx r, e => r.get (i := i) (by simpa using e)
end L2

set_option Elab.async false
set_option linter.all false
set_option maxRecDepth 100000
set_option maxHeartbeats 1000000
namespace L2
open PySem PySem.Spec PyProof.Rows
/-! ### sorted of ints -/
section
variable {prog : Program} {w : World} {A : Around} {E : Value → Shared → Prop} {s : Shared}
end
section
variable {X : Cx}
/-! ### range(n) as a value; list and tuple of it -/
end
end L2

set_option Elab.async false
set_option linter.all false
set_option maxRecDepth 100000
set_option maxHeartbeats 2000000
namespace L2
open PySem PySem.Spec PyProof.Rows
open AutoSeq1 (wpAny_loadPart')
section
variable {prog : Program} {w : World} {A : Around} {E : Value → Shared → Prop} {s : Shared}
end
section
variable {X : Cx}
/-! ### a tuple times an int -/
end
section
variable {σ : St} {H : Hp} {Q : VK} {K : PySem.W.Frag}
end
end L2

set_option Elab.async false
set_option linter.all false
set_option maxRecDepth 100000
set_option maxHeartbeats 1000000
namespace L2
open PySem PySem.Spec PyProof.Rows
section
variable {K : PySem.W.Frag} {σ : St} {H : Hp} {Q : VK}
theorem rd_sl {r : V → Option Int → Option Int → Hp → VK → Prop} {te : TE} {tl th : TO} (h : te σ H fun x H1 => tl σ H1 fun l H2 => th σ H2 fun u H3 => r x l u H3 Q) : tSl r te tl th σ H Q := h
theorem rd_noP {P : Option Int → Hp → Prop} (h : P none H) : tNoPart σ H P := h
theorem rd_part {te : TE} {P : Option Int → Hp → Prop} (h : te σ H fun x H1 => ∃ i, x = .int i ∧ P (some i) H1) : tPart te σ H P := h
theorem FreshAll.append {H H' : Hp} : ∀ {vs : List V} {ds : List PyData} {ws : List V} {es : List PyData}, FreshAll H H' vs ds → FreshAll H H' ws es → FreshAll H H' (vs ++ ws) (ds ++ es)
  | _, _, _, _, .nil, h => h
  | _, _, _, _, .cons a t, h => .cons a (t.append h)
end
/-! written things by one word: Lit (nested terms of PE take long to elaborate) -/
inductive Lit : List Expr → List PyData → Prop
  | nil : Lit [] []
  | int {i : Int} {j p es ds} : Lit es ds → Lit (.Constant (.int i) j p :: es) (.int i :: ds)
  | bl {b : Bool} {j p es ds} : Lit es ds → Lit (.Constant (.bool b) j p :: es) (.bool b :: ds)
  | non {j p es ds} : Lit es ds → Lit (.Constant .none j p :: es) (.none :: ds)
  | str {x : Str} {j p es ds} : Lit es ds → Lit (.Constant (.str x) j p :: es) (.str x :: ds)
  | neg {i : Int} {j p p2 es ds} : Lit es ds → Lit (.UnaryOp .USub (.Constant (.int i) j p2) p :: es) (.int (-i) :: ds)
  | tup {es' ds' x p es ds} : Lit es' ds' → ds'.length ≤ 100 → Lit es ds → Lit (.Tuple es' x p :: es) (.tuple ds' :: ds)
  | lst {es' ds' p es ds} : Lit es' ds' → ds'.length ≤ 100 → Lit es ds → Lit (.List es' p :: es) (.list ds' :: ds)
theorem Lit.pa {X : Cx} {es : List Expr} {ds : List PyData} (h : Lit es ds) : PA X es (tLits ds) := by
  have hz : 100 ≤ sizeLine := by decide
  induction h with
  | nil => exact pls_nil
  | int _ ih => exact pls_cons pl_int ih
  | bl _ ih => exact pls_cons pl_bl ih
  | non _ ih => exact pls_cons pl_non ih
  | str _ ih => exact pls_cons pl_str ih
  | neg _ ih => exact pls_cons pl_neg ih
  | tup _ h _ ih1 ih2 => exact pls_cons (pl_tup ih1 (Nat.le_trans h hz)) ih2
  | lst _ h _ ih1 ih2 => exact pls_cons (pl_lst ih1 (Nat.le_trans h hz)) ih2
end L2

set_option Elab.async false
set_option linter.all false
set_option maxRecDepth 100000
set_option maxHeartbeats 1000000
namespace L2
open PySem PySem.Spec PyProof.Rows
/-! ### a list taken apart: a, b = [..] -/
section
variable {P : Program} {w : World} {A : Around} {E : Value → Shared → Prop}
end
section
variable {X : Cx}
end
section
variable {K : PySem.W.Frag} {σ : St} {H : Hp}
end
end L2

set_option Elab.async false
set_option linter.all false
set_option maxRecDepth 100000
set_option maxHeartbeats 1000000
namespace L2
open PySem PySem.Spec PyProof.Rows
/-! ### min and max of a list of ints -/
section
variable {P : Program} {w : World} {A : Around} {E : Value → Shared → Prop} {s : Shared}
end
section
variable {X : Cx}
end
section
variable {K : PySem.W.Frag} {σ : St} {H : Hp} {Q : VK}
end
end L2

set_option Elab.async false
set_option linter.all false
set_option maxRecDepth 100000
set_option maxHeartbeats 1000000
namespace L2
open PySem PyProof.Rows
/-! ### t < u of tuples of any things, item by item -/
noncomputable def RcLt (A : Around) (s : Shared) (u v : Value) (r : Bool) : Prop := ∀ (prog : Program) (w : World) (E Q : Value → Shared → Prop), Q (.bool r) s → wpAny (model prog w) A (richCompare .Lt u v) Q E s
inductive LtAt (A : Around) (s : Shared) : List Value → List Value → Bool → Prop
  | nn : LtAt A s [] [] false
  | nc {v vs} : LtAt A s [] (v :: vs) true
  | cn {u us} : LtAt A s (u :: us) [] false
  | eq {u v us vs r} : SeqAt.EqAt A s u v true → LtAt A s us vs r → LtAt A s (u :: us) (v :: vs) r
  | ne {u v us vs r} : SeqAt.EqAt A s u v false → RcLt A s u v r → LtAt A s (u :: us) (v :: vs) r
section
open PySem.SeqAt
open PySem.AutoSeq1 (wpAny_loadPart')
open PySem.MeetsSeq PySem.MeetsSeq2 PySem.MeetsSeq3
end
end L2

set_option Elab.async false
set_option linter.all false
set_option maxRecDepth 100000
set_option maxHeartbeats 1000000
namespace L2
open PySem PySem.Spec PyProof.Rows
/-! ### within a built-in -/
noncomputable abbrev Cx.in1 (X : Cx) : Cx := { X with A := X.A.in1 }
section
variable {X : Cx} {pins : List (Addr × Obj)} {σ : St} {H : Hp} {s : Shared}
theorem Cx.Ok.in1 (ok : X.Ok) : X.in1.Ok := ⟨ok.mod, ok.kind, ok.glob, ok.blt, ok.above, ok.inj, ok.has, ok.cab, ok.hd, ok.frames, ok.stk, ok.exf, ok.bs, ok.bsz, ok.noex, ok.exfs, ok.funs, ok.frf⟩
theorem Inv.in1 (I : Inv X pins σ H s) : Inv X.in1 pins σ H s := ⟨I.ok.in1, I.os, I.bare, I.base, I.loc, I.cell, I.free, I.freeC, I.pin, I.hok, I.len⟩
end
/-! ### a lambda's frame -/
section
variable {X : Cx} {pins : List (Addr × Obj)} {σ : St} {H : Hp} {s : Shared} {qual : Str} {sc : Scope} {M : List Str} {q : Addr} {cd : Value}
end
end L2

set_option Elab.async false
set_option linter.all false
set_option maxRecDepth 100000
set_option maxHeartbeats 1000000
namespace L2
open PySem PySem.Spec PyProof.Rows
/-! ### the table of a def's code: a lambda's code is made once -/
structure TabB (base : Heap) (mg : Str → Option Value) (c P : Addr) : Prop where
  hd : PySem.W.CodeHd base c P
  bl : base.BuiltinsAt mg P
section
variable {X : Cx} {pins : List (Addr × Obj)} {σ : St} {H : Hp} {s : Shared}
end
end L2

set_option Elab.async false
set_option linter.all false
set_option maxRecDepth 100000
set_option maxHeartbeats 1000000
namespace L2
open PySem PySem.Spec PyProof.Rows
structure Ow (X : Cx) (pins : List (Addr × Obj)) (a : Addr) : Prop where
  loc : a ≠ X.env.locals
  fs : a ∉ X.fs
  new : a ∈ X.ex ∨ X.s₀.heap.objs.size ≤ a
  cel : ∀ x c, X.env.cells.lookup x = some c → c ≠ a
  pin : ∀ p ∈ X.pn ++ pins, p.1 ≠ a
section
variable {X : Cx} {pins p1 p2 : List (Addr × Obj)} {σ : St} {H : Hp} {s : Shared}
theorem Ow.sub {a : Addr} {pl : List (Addr × Obj)} (o : Ow X pins a) (h : ∀ p ∈ pl, p ∈ pins ∨ p.1 ≠ a) : Ow X pl a :=
  ⟨o.loc, o.fs, o.new, o.cel, fun p hp => by
    rcases List.mem_append.mp hp with z | z
    · exact o.pin p (List.mem_append_left _ z)
    · rcases h p z with y | y
      · exact o.pin p (List.mem_append_right _ y)
      · exact y⟩
/-- a step between two turns -/
structure MinW (K : PySem.W.Frag) (σ : St) (l : Addr) (xs : List V) (lt : R2) (te : TE) (f : V → St) (G : Hp → Prop) (W : Nat → Nat → V → Hp → Prop) (Q : VK) : Prop where
  lst : ∀ j b k H, W j b k H → H l = some (.lst xs) ∧ G H
  turn : ∀ j b k H x, W j b k H → xs[j]? = some x → te (f x) H fun k' H' => lt k' k H' fun z H'' => ∃ c, z = .bl c ∧ if c = true then W (j + 1) j k' H'' else W (j + 1) b k H''
  fin : ∀ b k H x, W xs.length b k H → xs[b]? = some x → Q x H
end
end L2

set_option Elab.async false
set_option linter.all false
set_option maxRecDepth 100000
set_option maxHeartbeats 1000000
namespace L2
open PySem PySem.Spec PyProof.Rows
/-! ### the head, with the table of one def's code tracked -/
structure TabK (K : PySem.W.Frag) (base : Heap) (mg : Str → Option Value) (x : Str) (c P : Addr) : Prop where
  kin : K.In base
  ns : base.Ns mainGlobals mg
  tab : PySem.W.tabIn K x = some (c, P)
  b : TabB base mg c P
end L2

set_option Elab.async false
set_option linter.all false
set_option maxRecDepth 100000
set_option maxHeartbeats 1000000
namespace L2
open PySem PySem.Spec PyProof.Rows
/-! ### d < e of ints and tuples of such -/
section
variable {X : Cx} {pins : List (Addr × Obj)} {σ : St} {H : Hp} {s : Shared}
end
end L2

set_option Elab.async false
set_option linter.all false
set_option maxRecDepth 100000
set_option maxHeartbeats 1000000
namespace L2
open PySem PySem.Spec PyProof.Rows
/-! ### enumerate of a tuple -/
section
open PySem.AutoSeq1 (wpAny_loadPart')
variable {prog : Program} {w : World} {A : Around} {E : Value → Shared → Prop} {s : Shared}
end
section
variable {H : Hp} {K : PySem.W.Frag}
end
end L2

set_option Elab.async false
set_option linter.all false
set_option maxRecDepth 100000
set_option maxHeartbeats 1000000
namespace L2
open PySem PySem.Spec PyProof.Rows
/-! ### list(reversed(l)), l[::-1] -/
section
open PySem.F
theorem lri_no_len : typeLookup (.type "list_reverseiterator") "__len__" = pure none := by rw [typeLookup_type, builtinLookup_eq_fast]; kernel_rfl
theorem lri_hint : typeLookup (.type "list_reverseiterator") "__length_hint__" = pure (some (.builtin "list_reverseiterator.__length_hint__")) := by rw [typeLookup_type, builtinLookup_eq_fast]; kernel_rfl
theorem sub_lri : isSubtype (.type "list_reverseiterator") (.type "list_reverseiterator") = pure true := by rw [isSubtype_type]; kernel_rfl
variable {prog : Program} {w : World} {A : Around} {E : Value → Shared → Prop} {s : Shared}
theorem hint_rev {it l : Addr} {i : Int} {Q : Bool → Shared → Prop} (hr : s.heap.IsRevIter it l i) (h : Q false s) : wpAny (model prog w) A (Builtin.List.listLengthHint (.ref it)) Q E s := by
  unfold Builtin.List.listLengthHint
  refine wpAny_bind (wpAny_specialOf hr.typeIs lri_no_len ?_)
  show wpAny _ _ (specialOf (Value.ref it) (Str.ofString "__length_hint__") >>= _) _ _ _
  refine wpAny_bind (wpAny_specialOf hr.typeIs lri_hint ?_)
  generalize hid : ("list_reverseiterator.__length_hint__" : String) = id0
  wp_delta
  rw [show splitId id0 = some ("list_reverseiterator", "__length_hint__") from by subst hid; decide +kernel]
  subst hid
  refine wpAny_bind (wpAny_isInstance (T := "list_reverseiterator") (b := true) hr.typeIs sub_lri ?_)
  refine wpAny_ite_split (fun hab => absurd hab (by decide)) (fun _ => ?_)
  refine wpAny_ite_split (fun _ => ?_) (fun hab => absurd (by decide +kernel) hab)
  refine wpAny_ite_split (fun hab => absurd hab (by decide +kernel)) (fun _ => ?_)
  exact wpAny_pure h
theorem extend_rev {R : Result → Shared → Prop} {it l : Addr} {items : Array Value} (hh : A.handled = none) (hr : s.heap.IsRevIter it l ((items.size : Int) - 1)) (hl : s.heap.IsList l items) (hlen : items.size ≤ 1000) (S : Addr) (res : Value) (c₀ : Nat)
    (hS : s.heap.get? S = some { cls := .type "list", data := .seq #[] c₀ }) (hne : l ≠ it) (hSl : S ≠ l)
    (hR : ∀ h' tk acc' c', (∀ b o, b ≠ S → b ≠ it → s.heap.get? b = some o → h'.get? b = some o) → h'.get? S = some { cls := .type "list", dict := none, data := .seq acc' c', slots := #[] } →
      ItemsOf (fun i v => items[items.size - 1 - i]? = some v) acc' items.size → R (.ok (.ret res)) { s with heap := h', toks := tk }) :
    wpAny (model prog w) A.in1 (Builtin.List.listExtendWith (.ref S) (.ref it) res)
      (fun fin s' => match fin with | .done f => R (.ok f) s' | .again c' => c'.quiet = true ∧ codeAny (model prog w) A c' R s') (fun e s' => R (.error e) s') s := by
  have hSr : S ≠ it := fun e => by
    obtain ⟨o, ho, hc, _⟩ := hr
    rw [e, ho] at hS
    cases hS
    simp at hc
  have hSf : S ∉ [it, l] := fun hm => by
    rcases List.mem_cons.mp hm with e | e
    · exact hSr e
    · exact hSl (List.mem_singleton.mp e)
  have W := (Walks.listRev (prog := prog) (w := w) (A := A.in1) hh it l hne items).toS
  unfold Builtin.List.listExtendWith
  refine wpAny_bind (wpAny_typeOf hr.typeIs ?_)
  have h1 : Builtin.List.listSameRef (.ref S) (.ref it) = false := by simp [Builtin.List.listSameRef, hSr]
  have h2 : (Value.type "list_reverseiterator" == Value.type "list") = false := by decide
  have h3 : (Value.type "list_reverseiterator" == Value.type "tuple") = false := by decide
  simp only [h1, h2, h3, Bool.or_false, Bool.false_eq_true, if_false]
  refine wpAny_bind (wpAny_pyIter_revIter hr ?_)
  refine wpAny_bind (wpAny_holding (hint_rev hr ?_))
  refine wpAny_ite_split (fun hab => absurd hab (by decide)) (fun _ => wpAny_pure ⟨plainId_quiet F.plain_extend_loop _, ?_⟩)
  have e0 : (items.size : Int) - 1 - ((0 : Nat) : Int) = (items.size : Int) - 1 := by omega
  refine codeAny_extend_loopS W (Nat.le_of_lt (small1000 hlen)) S hSf res items.size 0 _ #[] c₀ rfl (Nat.zero_le _) ⟨Nat.zero_le _, by rw [e0]; exact hr, hl⟩ hS (ItemsOf.nil _) fun s' acc' c' hm hS' hacc => ?_
  rw [Moved.eq_with hm]
  refine hR s'.heap s'.toks acc' c' (fun b o hb hb2 e => hm.heap b o (fun hmem => ?_) e) hS' hacc
  rcases List.mem_cons.mp hmem with e' | hmem
  · exact hb e'
  · exact hb2 (List.mem_singleton.mp hmem)
theorem call_list_rev {Q : Value → Shared → Prop} {it l : Addr} {items : Array Value} (hh : A.handled = none) (hr : s.heap.IsRevIter it l ((items.size : Int) - 1)) (hl : s.heap.IsList l items) (hlen : items.size ≤ 1000) (hne : l ≠ it)
    (hQ : ∀ h' tk acc' c', (∀ b o, b ≠ it → s.heap.get? b = some o → h'.get? b = some o) →
      h'.get? s.heap.objs.size = some { cls := .type "list", dict := none, data := .seq acc' c', slots := #[] } → ItemsOf (fun i v => items[items.size - 1 - i]? = some v) acc' items.size → Q (.ref s.heap.objs.size) { s with heap := h', toks := tk }) :
    wpAny (model prog w) A (call (.type "list") [.ref it]) Q E s := by
  refine callType_codes (Q₁ := fun obj s₁ => obj = .ref s.heap.objs.size ∧ s₁ = { s with heap := s.heap.push { cls := .type "list", data := .seq #[] } }) F.called_list (F.typeCall_list_1 _) F.entry_list_init
    (code_list_new _ ⟨rfl, rfl⟩) fun obj s₁ h₁ => ?_
  obtain ⟨rfl, rfl⟩ := h₁
  have hS : (s.heap.push { cls := .type "list", data := .seq #[] }).get? s.heap.objs.size = some { cls := .type "list", data := .seq #[] } := Heap.get?_push_size _ rfl
  refine ⟨⟨_, hS, rfl⟩, F.args_list_init_2 _ _, ?_⟩
  generalize hSS : s.heap.objs.size = S at *
  have hlS : ∀ b o, s.heap.get? b = some o → b ≠ S := fun b o e => hSS ▸ Nat.ne_of_lt (Heap.lt_size e)
  show wpAny _ _ (do let old ← Builtin.List.listItems (.ref S); Builtin.List.listUpdate (.ref S) (fun _ => #[]); letGo old.toList.reverse; Builtin.List.listExtendWith (.ref S) (.ref it) .none) _ _ _
  refine wpAny_bind ?_
  unfold Builtin.List.listItems
  refine wpAny_bind (wpAny_seqItems hS rfl (wpAny_pure ?_))
  show wpAny _ _ (updateSeq S (fun _ => #[]) >>= fun _ => letGo (#[] : Array Value).toList.reverse >>= fun _ => Builtin.List.listExtendWith (.ref S) (.ref it) .none) _ _ _
  refine wpAny_bind (wpAny_updateSeq hS rfl ?_)
  have hS₂ := Heap.get?_update_self (Obj.mapSeq (fun _ => (#[] : Array Value))) hS rfl
  have oth : ∀ b o, s.heap.get? b = some o → ((s.heap.push { cls := .type "list", data := .seq #[] }).update S (Obj.mapSeq (fun _ => (#[] : Array Value)))).get? b = some o :=
    fun b o e => (Heap.get?_update_other _ _ (Ne.symm (hlS b o e))).trans (Heap.get?_push_of_some _ e)
  refine wpAny_bind (wpAny_letGo ?_)
  have nl : S ≠ l := by obtain ⟨o, ho, _⟩ := id hl; exact Ne.symm (hlS l o ho)
  refine extend_rev (A := A.in1) hh (hr.at fun o e => oth it o e) (hl.at fun o e => oth l o e) hlen S .none _ hS₂ hne nl fun h' tk acc' c' hk hS' hacc => ?_
  exact ⟨rfl, hQ h' tk acc' c' (fun b o hb e => hk b o (hlS b o e) hb (oth b o e)) hS' hacc⟩
end
section
variable {X : Cx}
theorem items_rev {its : List Value} {acc : Array Value} (h : ItemsOf (fun i v => its.toArray[its.toArray.size - 1 - i]? = some v) acc its.toArray.size) : acc.toList = its.reverse := by
  obtain ⟨h1, h2⟩ := h
  have h1' : acc.size = its.length := by rw [h1, List.size_toArray]
  refine List.ext_getElem? fun i => ?_
  by_cases hi : i < its.length
  · have e1 : i < acc.size := by omega
    have g := h2 i acc[i] (by simp [e1])
    rw [List.getElem?_reverse hi]
    rw [List.size_toArray] at g
    rw [show acc.toList[i]? = some acc[i] by simp [e1], ← g]
    simp
  · rw [List.getElem?_eq_none (by simp; omega), List.getElem?_eq_none (by simp; omega)]
/-- list(reversed(e)) of a list -/
noncomputable def tLrev (K : PySem.W.Frag) (ta : TA) : TE := fun σ H Q => ta σ H fun vs H1 => ∃ a xs, vs = [.ref a] ∧ SqL K H1 a xs ∧ xs.length ≤ 1000 ∧ ∀ p, H1 p = none → Q (.ref p) (upd H1 p (.lst xs.reverse))
theorem pe_lrev {e : Expr} {ta : TA} {p1 p2 p3 p4 : Pos} (hc : X.calm = true) (hg : Gl X "list") (hm : X.mg "list" = none) (hg2 : Gl X "reversed") (hm2 : X.mg "reversed" = none) (ha : PA X [e] ta) (hs : starEach [e] X.env = [(false, eval e X.env)] := by rfl)
    (hs2 : starEach [Expr.Call (.Name "reversed" p2) [e] [] p3] X.env = [(false, eval (.Call (.Name "reversed" p2) [e] [] p3) X.env)] := by rfl) :
    PE X (.Call (.Name "list" p1) [.Call (.Name "reversed" p2) [e] [] p3] [] p4) (tLrev X.K ta) := by
  intro pins s σ H Q I h
  refine Call_ (ld_blt I hg hm bt_list (PyProof.Rows.callWith_type1 ?_ hs2 rfl))
  rw [hs2]
  show wpAny _ _ (spliced ((false, eval (.Call (.Name "reversed" p2) [e] [] p3) X.env) :: backTo p4 [])) _ _ s
  refine Calls.spliced_cons (Call_ (ld_blt I hg2 hm2 bt_reversed (PyProof.Rows.callWith_type1 (thn (ha p3 pins s σ H _ I h) fun us s1 ⟨vs, H1, I1, r1, q1⟩ => ?_) hs rfl)))
  obtain ⟨b, xs, e, hq, hz1, q⟩ := q1
  subst e
  obtain ⟨u, rfl, rx⟩ := Vals.one r1
  obtain rfl : u = Value.ref b := rx
  obtain ⟨its, rv, pl, hz⟩ := I1.list hq
  refine call_reversed_list pl.isList ?_
  refine Calls.spliced_nil ?_
  have hsz : its.toArray.size = xs.length := by rw [List.size_toArray]; exact rv.length.symm
  have hblt : b < s1.heap.objs.size := by obtain ⟨o, ho, _⟩ := pl.isList; exact Heap.lt_size ho
  have I2 : Inv X pins σ H1 { s1 with heap := s1.heap.push (revObj b ((its.toArray.size : Int) - 1)) } := I1.kept (t' := s1.toks) fun c o e => Heap.get?_push_of_some _ e
  have hit : Heap.IsRevIter (s1.heap.push (revObj b ((its.toArray.size : Int) - 1))) s1.heap.objs.size b ((its.toArray.size : Int) - 1) := ⟨_, Heap.get?_push_size _ rfl, rfl, rfl⟩
  have hl2 : Heap.IsList (s1.heap.push (revObj b ((its.toArray.size : Int) - 1))) b its.toArray := pl.isList.at fun o e => Heap.get?_push_of_some _ e
  refine call_list_rev (s := { s1 with heap := s1.heap.push (revObj b ((its.toArray.size : Int) - 1)) }) (I2.ok.hd hc) hit hl2 (by rw [hsz]; exact hz1) (Nat.ne_of_lt hblt) fun h' tk acc c hk hS hacc => ?_
  have hv := items_rev hacc
  have hz2 : (s1.heap.push (revObj b ((its.toArray.size : Int) - 1))).objs.size = s1.heap.objs.size + 1 := Heap.size_push ..
  rw [hz2] at hS
  show EP X pins σ Q (.ref (s1.heap.push (revObj b ((its.toArray.size : Int) - 1))).objs.size) _
  rw [hz2]
  refine ⟨.ref (s1.heap.objs.size + 1), _, I1.laid (t' := tk) (o := .lst xs.reverse) (fun c o e => hk c o (Nat.ne_of_lt (Heap.lt_size e)) (Heap.get?_push_of_some _ e)) (Nat.le_succ _) ⟨?_, its.reverse, c, rv.reverse, ?_⟩, rfl, q _ (I1.hok.fresh (Nat.le_succ _))⟩
  · rw [List.length_reverse]
    exact hz
  · rw [← hv]
    simpa using hS
theorem k_lrev (K : PySem.W.Frag) {e : Expr} {ta : TA} {p1 p2 p3 p4 : Pos} (hg : Gl X "list") (hm : X.mg "list" = none) (hg2 : Gl X "reversed") (hm2 : X.mg "reversed" = none) (ha : PA X [e] ta) (hc : X.calm = true := by rfl) (h : X.K = K := by rfl) (hs : starEach [e] X.env = [(false, eval e X.env)] := by rfl)
    (hs2 : starEach [Expr.Call (.Name "reversed" p2) [e] [] p3] X.env = [(false, eval (.Call (.Name "reversed" p2) [e] [] p3) X.env)] := by rfl) :
    PE X (.Call (.Name "list" p1) [.Call (.Name "reversed" p2) [e] [] p3] [] p4) (tLrev K ta) := h ▸ pe_lrev hc hg hm hg2 hm2 ha hs hs2
theorem rd_lrev {K : PySem.W.Frag} {σ : St} {H : Hp} {Q : VK} {ta : TA} (h : ta σ H fun vs H1 => ∃ a xs, vs = [.ref a] ∧ SqL K H1 a xs ∧ xs.length ≤ 1000 ∧ ∀ p, H1 p = none → Q (.ref p) (upd H1 p (.lst xs.reverse))) : tLrev K ta σ H Q := h
/-- l[::-1] of a list -/
theorem sliceBounds_rev (n : Nat) : sliceBounds none none (some (-1)) n = ((n : Int) - 1, -1, -1) := by
  simp [sliceBounds]
theorem slicePick_rev (its : List Value) : slicePick its.toArray none none (some (-1)) = its.reverse.toArray := by
  unfold slicePick
  rw [sliceBounds_rev, List.size_toArray]
  congr 1
  show (sliceRange ((its.length : Int) - 1) (-1) (-1)).filterMap (fun i => its.toArray[i]?) = its.reverse
  have e : sliceRange ((its.length : Int) - 1) (-1) (-1) = (List.range its.length).map fun k => its.length - 1 - k := by
    unfold sliceRange
    simp only [show ¬ ((-1 : Int) > 0) by decide, if_false]
    by_cases h : its.length = 0
    · rw [h]; simp
    · rw [if_pos (by omega), show (((its.length : Int) - 1 - -1 - -1 - 1) / (- -1)).toNat = its.length by simp]
      refine List.map_congr_left fun k hk => ?_
      have := List.mem_range.mp hk
      omega
  rw [e]
  refine List.ext_getElem? fun i => ?_
  have fm : ∀ (l : List Nat), (∀ k ∈ l, k < its.length) → l.filterMap (fun i => its.toArray[i]?) = l.map fun i => its.getD i default := fun l => by
    induction l with
    | nil => intro _; rfl
    | cons x l ih =>
      intro h
      have hx := h x List.mem_cons_self
      rw [List.filterMap_cons, List.map_cons, ih fun k hk => h k (List.mem_cons_of_mem _ hk)]
      simp [hx]
  rw [fm _ (fun k hk => by
    obtain ⟨j, hj, rfl⟩ := List.mem_map.mp hk
    have := List.mem_range.mp hj
    omega), List.map_map, List.getElem?_map]
  by_cases hi : i < its.length
  · rw [List.getElem?_range hi, List.getElem?_reverse hi]
    have : its.length - 1 - i < its.length := by omega
    simp [this]
  · rw [List.getElem?_eq_none (by simp; omega), List.getElem?_eq_none (by simp; omega)]
    rfl
noncomputable def tRevS (K : PySem.W.Frag) (te : TE) : TE := fun σ H Q => te σ H fun x H1 => ∃ a xs, x = .ref a ∧ SqL K H1 a xs ∧ ∀ p, H1 p = none → Q (.ref p) (upd H1 p (.lst xs.reverse))
theorem pe_revS {e se : Expr} {te ts : TE} {p2 pos : Pos} (he : PE X e te) (hs : PE X se ts) (ht : ∀ σ H Q, Q (.int (-1)) H → ts σ H Q) : PE X (.Subscript e (.Slice none none (some se) p2) pos) (tRevS X.K te) := by
  intro pins s σ H Q I h
  refine Subscript_ (thn (he pins s σ H _ I h) fun v s1 ⟨x, H1, I1, r1, q1⟩ => ?_)
  obtain ⟨a, xs, rfl, hx, q⟩ := q1
  refine wpAny_Slice ?_
  rw [evalPart_none]
  refine wpAny_pure ?_
  refine wpAny_pure ?_
  have hpo := po_some hs pins s1 σ H1 (fun o H' => o = some (-1) ∧ H' = H1) I1 (ht σ H1 _ ⟨_, rfl, rfl, rfl⟩)
  refine thn hpo fun vs s3 ⟨o, H3, I3, ps, e1, e2⟩ => ?_
  subst e1 e2
  have I4 : Inv X pins σ H3 { s3 with heap := s3.heap.push { cls := .type "slice", data := .fields #[.none, .none, vs] } } := I3.kept (t' := s3.toks) fun b ob q => Heap.get?_push_of_some _ q
  cases r1
  obtain ⟨its, r, hl, hz⟩ := I4.list hx
  show wpAny (model X.prog X.w) X.A (subscriptTail e (.Slice none none (some se) p2) (.ref a) (.ref s3.heap.objs.size)) (EP X pins σ Q) X.xe { s3 with heap := s3.heap.push { cls := .type "slice", data := .fields #[.none, .none, vs] } }
  refine tail_any (ops := [.ref a, .ref s3.heap.objs.size]) hl.isList.typeIs slot_list_getitem.lookup ?_ (by with_unfolding_all rfl)
  refine wpAny_getItem_list_slice hl.isList (Heap.IsSliceOf.new ..) .none .none ps (by simp) ?_ (by rw [List.size_toArray, ← r.length]; exact hz)
  rw [slicePick_rev]
  refine ⟨.ref _, _, I4.laid (t' := s3.toks) (o := .lst xs.reverse) (fun b ob q => Heap.get?_push_of_some _ q) (Nat.le_refl _) ?_, rfl, q _ (I4.hok.fresh (Nat.le_refl _))⟩
  exact ⟨by rw [List.length_reverse]; exact hz, _, 0, r.reverse, Heap.get?_push_size _ rfl⟩
theorem k_revS (K : PySem.W.Frag) {e se : Expr} {te ts : TE} {p2 pos : Pos} (he : PE X e te) (hs : PE X se ts) (ht : ∀ σ H Q, Q (.int (-1)) H → ts σ H Q) (h : X.K = K := by rfl) : PE X (.Subscript e (.Slice none none (some se) p2) pos) (tRevS K te) := h ▸ pe_revS he hs ht
theorem rd_revS {K : PySem.W.Frag} {σ : St} {H : Hp} {Q : VK} {te : TE} (h : te σ H fun x H1 => ∃ a xs, x = .ref a ∧ SqL K H1 a xs ∧ ∀ p, H1 p = none → Q (.ref p) (upd H1 p (.lst xs.reverse))) : tRevS K te σ H Q := h
end
end L2

set_option Elab.async false
set_option linter.all false
set_option maxRecDepth 100000
set_option maxHeartbeats 1000000
namespace L2
open PySem PySem.Spec PyProof.Rows
/-! ### zip of two lists -/
noncomputable def Itz (K : PySem.W.Frag) (a b : Addr) : It :=
  ⟨fun i H => ∃ xs ys x y, SqL K H a xs ∧ SqL K H b ys ∧ xs[i]? = some x ∧ ys[i]? = some y, fun i H v H' => ∃ T x y, v = .ref T ∧ H T = none ∧ (∀ xs, SqL K H a xs → xs[i]? = some x) ∧ (∀ ys, SqL K H b ys → ys[i]? = some y) ∧ H' = upd H T (.tup [x, y]), fun i H => ∃ xs ys, SqL K H a xs ∧ SqL K H b ys ∧ xs.length ≤ i⟩
structure ZipD (z TI TO i1 i2 : Addr) : Prop where
  TIz : TI ≠ z
  TOz : TO ≠ z
  i1z : i1 ≠ z
  i2z : i2 ≠ z
  TITO : TI ≠ TO
  TIi1 : TI ≠ i1
  TIi2 : TI ≠ i2
  TOi1 : TO ≠ i1
  TOi2 : TO ≠ i2
  i12 : i1 ≠ i2
noncomputable def ztn (a b z TI TO i1 i2 : Addr) (i : Nat) (h : Heap) : Prop := IsZip h z TI TO .none ∧ IsPair h TI (.ref i1) (.ref i2) ∧ (∃ u v, IsPair h TO u v) ∧ h.IsListIter i1 a i ∧ h.IsListIter i2 b i
theorem ztn_apart {a b z TI TO i1 i2 : Addr} {i : Nat} {h : Heap} {us ws : Array Value} (D : ZipD z TI TO i1 i2) (st : ztn a b z TI TO i1 i2 i h) (ha : h.IsList a us) (hb : h.IsList b ws) : ZipApart z TI TO i1 i2 a b := by
  obtain ⟨hz, hTI, ⟨u, v, hTO⟩, ⟨o1, e1, c1, _⟩, ⟨o2, e2, c2, _⟩⟩ := st
  have ne : ∀ (l : Addr) (us : Array Value), h.IsList l us → ∀ b, (∃ o, h.get? b = some o ∧ o.cls ≠ .type "list") → l ≠ b := fun l us hl b ⟨o, eo, co⟩ z => by
    obtain ⟨o', e', c', _⟩ := hl
    rw [z, eo] at e'; cases e'; exact co c'
  have nz : ∃ o, h.get? z = some o ∧ o.cls ≠ .type "list" := ⟨_, hz, fun x => by simp at x⟩
  have nO : ∃ o, h.get? TO = some o ∧ o.cls ≠ .type "list" := ⟨_, hTO, fun x => by simp at x⟩
  have n1 : ∃ o, h.get? i1 = some o ∧ o.cls ≠ .type "list" := ⟨_, e1, fun x => by rw [c1] at x; simp at x⟩
  have n2 : ∃ o, h.get? i2 = some o ∧ o.cls ≠ .type "list" := ⟨_, e2, fun x => by rw [c2] at x; simp at x⟩
  exact ⟨D.TIz, D.TOz, D.i1z, D.i2z, D.TITO, D.TIi1, D.TIi2, D.TOi1, D.TOi2, D.i12, ne a us ha z nz, ne a us ha TO nO, ne a us ha i1 n1, ne a us ha i2 n2, ne b ws hb z nz, ne b ws hb TO nO, ne b ws hb i1 n1, ne b ws hb i2 n2⟩
theorem turn_zip {P : Program} {w : World} {K : PySem.W.Frag} {elts : List Expr} {k : Nat} {pos : Pos} (a b z TI TO i1 i2 : Addr) (D : ZipD z TI TO i1 i2) : Turn P w K (.Tuple elts k pos) (Itz K a b) [z, TI, TO, i1, i2] z (ztn a b z TI TO i1 i2) where
  mem := by simp
  obj := fun i h st c hc => by
    obtain ⟨hz, hTI, ⟨u, v, hTO⟩, ⟨o1, e1, c1, d1⟩, ⟨o2, e2, c2, d2⟩⟩ := st
    simp only [List.mem_cons, List.not_mem_nil, or_false] at hc
    rcases hc with rfl | rfl | rfl | rfl | rfl
    · exact ⟨_, hz, fun v z => by cases z⟩
    · exact ⟨_, hTI, fun v z => by cases z⟩
    · exact ⟨_, hTO, fun v z => by cases z⟩
    · exact ⟨_, e1, fun v z => by rw [d1] at z; cases z⟩
    · exact ⟨_, e2, fun v z => by rw [d2] at z; cases z⟩
  keep := fun i h h' st kk => by
    obtain ⟨hz, hTI, ⟨u, v, hTO⟩, h1, h2⟩ := st
    exact ⟨kk z (by simp) _ hz, kk TI (by simp) _ hTI, ⟨u, v, kk TO (by simp) _ hTO⟩, h1.at fun o x => kk i1 (by simp) o x, h2.at fun o x => kk i2 (by simp) o x⟩
  item := by
    intro X hP hw hK hc i pins s σ H E I hf st hg
    subst hP hw hK
    obtain ⟨xs, ys, x, y, hqa, hqb, hx, hy⟩ := hg
    obtain ⟨ia, ra, pa, _⟩ := I.list hqa
    obtain ⟨ib, rb, pb, _⟩ := I.list hqb
    obtain ⟨ux, hux, rux⟩ := ra.get hx
    obtain ⟨uy, huy, ruy⟩ := rb.get hy
    have A := ztn_apart D st pa.isList pb.isList
    obtain ⟨hz, hTI, ⟨u, v, hTO⟩, h1, h2⟩ := id st
    have zlt : z < s.heap.objs.size := Heap.lt_size hz
    have TOlt : TO < s.heap.objs.size := Heap.lt_size hTO
    have TIlt : TI < s.heap.objs.size := Heap.lt_size hTI
    have i1lt : i1 < s.heap.objs.size := by obtain ⟨_, e, _⟩ := h1; exact Heap.lt_size e
    have i2lt : i2 < s.heap.objs.size := by obtain ⟨_, e, _⟩ := h2; exact Heap.lt_size e
    refine wpAny_pyNext_zip_item A hz hTI hTO h1 h2 pa.isList pb.isList (x := ux) (y := uy) (by simpa using hux) (by simpa using huy) fun h' a1 a2 a3 a4 a5 a6 hk => ?_
    have hTH : H s.heap.objs.size = none := I.hok.fresh (Nat.le_refl _)
    generalize hTT : s.heap.objs.size = T at *
    refine ⟨_, rfl, ?_⟩
    refine wpAny_letOwnedTupleGo_zip a1 fun h2' hz' hs' => ?_
    have keep : ∀ c o, c ≠ z → c ≠ TO → c ≠ i1 → c ≠ i2 → s.heap.get? c = some o → h2'.get? c = some o := fun c o c1 c2 c3 c4 e => hs'.extBut _ _ c1 (hk c o c1 c2 c3 c4 e)
    have nT : ∀ c, c < T → T ≠ c := fun c hc z => absurd hc (by rw [z]; exact Nat.lt_irrefl _)
    have eT : IsPair h2' T ux uy := hs'.extBut _ _ (nT z zlt) a5
    have J : Inv X pins σ (upd H T (.tup [x, y])) { s with heap := h2', toks := s.toks } := by
      refine I.step (g' := s.gens) (d' := s.drawn) (ch := [z, TO, i1, i2]) (fun c hc => ?_) (fun c o _ _ hc eo _ => ?_) (fun c o _ _ hc eo _ => ⟨o.slots, ?_⟩) (fun c o _ eo n => ?_)
        (fun c o hc eo => ⟨o, ?_⟩) (fun c xs q => ?_) (fun c o u q => ?_) (fun c ps q => ?_) (fun m hm => ?_) (fun c u q => ?_) I.bare
      · obtain ⟨f0, f1, f2, f3, f4, f5⟩ := hf c (by simp only [List.mem_cons, List.not_mem_nil, or_false] at hc ⊢; rcases hc with h | h | h | h <;> simp [h])
        exact ⟨f3, f1, f4, f5⟩
      · exact keep c o (fun z => hc (by simp [z])) (fun z => hc (by simp [z])) (fun z => hc (by simp [z])) (fun z => hc (by simp [z])) eo
      · exact keep c o (fun z => hc (by simp [z])) (fun z => hc (by simp [z])) (fun z => hc (by simp [z])) (fun z => hc (by simp [z])) eo
      · rw [upd_ne (Nat.ne_of_lt (hTT ▸ Heap.lt_size eo))]; exact n
      · exact keep c o (fun z => hc (by simp [z])) (fun z => hc (by simp [z])) (fun z => hc (by simp [z])) (fun z => hc (by simp [z])) eo
      · rw [upd_ne (ne_of_none q hTH)]; exact q
      · rw [upd_ne (ne_of_none q hTH)]; exact q
      · exact ⟨#[], by rw [upd_ne (ne_of_none q hTH), q]; simp⟩
      · obtain ⟨o, es, ep, eo, r⟩ := hm
        exact ⟨o, es, ep, keep _ o (Ne.symm (hf z (by simp)).2.1) (Ne.symm (hf TO (by simp)).2.1) (Ne.symm (hf i1 (by simp)).2.1) (Ne.symm (hf i2 (by simp)).2.1) eo, r⟩
      · by_cases hb : c = T
        · subst hb
          rw [upd_same] at q
          cases q
          exact ⟨by show 2 ≤ sizeLine; decide, [ux, uy], .cons rux (.cons ruy .nil), ⟨_, eT, rfl, _, rfl⟩, _, eT, rfl⟩
        · rw [upd_ne hb] at q
          have ap : ∀ d ∈ [z, TI, TO, i1, i2], ∀ c', (c' = c ∨ H c' = some (.own c)) → c' ≠ d := fun d hd c' hc' e => by
            have f0 := (hf d hd).1
            subst e
            rcases hc' with rfl | hc'
            · rw [f0] at q; cases q
            · rw [f0] at hc'; cases hc'
          refine (I.hok c u q).stay (fun c' v hc' r => keep c' v (ap z (by simp) c' hc') (ap TO (by simp) c' hc') (ap i1 (by simp) c' hc') (ap i2 (by simp) c' hc') r) (fun c r => by rw [upd_ne (ne_of_none r hTH)]; exact r) fun c xs r => by rw [upd_ne (ne_of_none r hTH)]; exact r
    refine ⟨.ref T, _, J, rfl, ⟨T, x, y, rfl, hTH, fun zs hz => by rw [I.list_inj hz hqa]; exact hx, fun zs hz => by rw [I.list_inj hz hqb]; exact hy, rfl⟩, ⟨hz', ?_, ⟨_, _, hs'.extBut _ _ D.TOz a2⟩, a3.extBut hs'.extBut D.i1z, a4.extBut hs'.extBut D.i2z⟩, fun c hb => ?_⟩
    · exact keep _ _ D.TIz D.TITO D.TIi1 D.TIi2 hTI
    · rw [upd_ne (fun e => ?_)]
      · exact (hf c hb).1
      · subst e
        simp only [List.mem_cons, List.not_mem_nil, or_false] at hb
        rcases hb with rfl | rfl | rfl | rfl | rfl
        · exact nT _ zlt rfl
        · exact nT _ TIlt rfl
        · exact nT _ TOlt rfl
        · exact nT _ i1lt rfl
        · exact nT _ i2lt rfl
  done := by
    intro X hP hw hK hc i pins s σ H E I hf st hg
    subst hP hw hK
    obtain ⟨xs, ys, hqa, hqb, hx⟩ := hg
    obtain ⟨ia, ra, pa, _⟩ := I.list hqa
    obtain ⟨ib, rb, pb, _⟩ := I.list hqb
    have A := ztn_apart D st pa.isList pb.isList
    obtain ⟨hz, hTI, ⟨u, v, hTO⟩, h1, h2⟩ := id st
    have hl := ra.length
    refine wpAny_pyNext_zip_end (I.ok.hd hc) A hz hTI hTO h1 h2 pa.isList pb.isList (.inl (by simp; omega)) fun h' hk => ⟨rfl, ?_⟩
    show Inv X pins σ H { s with heap := h', toks := s.toks }
    refine I.step (g' := s.gens) (d' := s.drawn) (ch := [z, TO, i1, i2]) (fun c hc => ?_) (fun c o _ _ hc eo _ => ?_) (fun c o _ _ hc eo _ => ⟨o.slots, ?_⟩) (fun c o _ eo n => n)
      (fun c o hc eo => ⟨o, ?_⟩) (fun c xs q => q) (fun c o u q => q) (fun c ps q => ⟨#[], by rw [q]; simp⟩) (fun m hm => ?_) (fun c u q => ?_) I.bare
    · obtain ⟨f0, f1, f2, f3, f4, f5⟩ := hf c (by simp only [List.mem_cons, List.not_mem_nil, or_false] at hc ⊢; rcases hc with h | h | h | h <;> simp [h])
      exact ⟨f3, f1, f4, f5⟩
    · exact hk c o (fun z => hc (by simp [z])) (fun z => hc (by simp [z])) (fun z => hc (by simp [z])) (fun z => hc (by simp [z])) eo
    · exact hk c o (fun z => hc (by simp [z])) (fun z => hc (by simp [z])) (fun z => hc (by simp [z])) (fun z => hc (by simp [z])) eo
    · exact hk c o (fun z => hc (by simp [z])) (fun z => hc (by simp [z])) (fun z => hc (by simp [z])) (fun z => hc (by simp [z])) eo
    · obtain ⟨o, es, ep, eo, r⟩ := hm
      exact ⟨o, es, ep, hk _ o (Ne.symm (hf z (by simp)).2.1) (Ne.symm (hf TO (by simp)).2.1) (Ne.symm (hf i1 (by simp)).2.1) (Ne.symm (hf i2 (by simp)).2.1) eo, r⟩
    · have ap : ∀ d ∈ [z, TI, TO, i1, i2], ∀ c', (c' = c ∨ H c' = some (.own c)) → c' ≠ d := fun d hd c' hc' e => by
        have f0 := (hf d hd).1
        subst e
        rcases hc' with rfl | hc'
        · rw [f0] at q; cases q
        · rw [f0] at hc'; cases hc'
      exact (I.hok c u q).stay (fun c' v hc' r => hk c' v (ap z (by simp) c' hc') (ap TO (by simp) c' hc') (ap i1 (by simp) c' hc') (ap i2 (by simp) c' hc') r) (fun c r => r) fun c xs r => r
  self := fun A i s Q E st h => wpAny_pyIter_zip st.1 h
noncomputable def iZip (K : PySem.W.Frag) (ta : TA) : TI := fun σ H R => ta σ H fun vs H1 => ∃ a b, vs = [.ref a, .ref b] ∧ (∃ xs, SqL K H1 a xs) ∧ (∃ ys, SqL K H1 b ys) ∧ R (Itz K a b) H1
theorem nea {a b : Nat} (h : ¬ a = b) : @Ne Addr a b := h
theorem pi_zip {X : Cx} {elts : List Expr} {k : Nat} {tp : Pos} {a b : Expr} {ta : TA} {p pos : Pos} (hg : Gl X "zip") (hm : X.mg "zip" = none) (ha : PA X [a, b] ta) (hs : starEach [a, b] X.env = [(false, eval a X.env), (false, eval b X.env)] := by rfl) (hs2 : starEach [b] X.env = [(false, eval b X.env)] := by rfl) :
    PI X (.Tuple elts k tp) (.Call (.Name "zip" p) [a, b] [] pos) (iZip X.K ta) := by
  intro pins s σ H R I h
  refine Call_ (ld_blt I hg hm bt_zip (PyProof.Rows.callWith_type1 (thn (ha pos pins s σ H _ I h) fun us s1 ⟨vs, H1, I1, r1, q1⟩ => ?_) (by rw [hs, hs2]) (by rw [hs2]; rfl)))
  obtain ⟨x, y, e, ⟨xs, hqa⟩, ⟨ys, hqb⟩, q⟩ := q1
  subst e
  cases r1 with
  | @cons _ u _ us rx r2 =>
  cases r2 with
  | @cons _ u2 _ us2 ry r3 =>
  cases r3
  obtain rfl : u = Value.ref x := rx
  obtain rfl : u2 = Value.ref y := ry
  obtain ⟨ia, ra, pa, _⟩ := I1.list hqa
  obtain ⟨ib, rb, pb, _⟩ := I1.list hqb
  refine call_zip_2 pa.isList pb.isList fun h' hz hTI hTO hi1 hi2 hsz hk => ?_
  refine wpAny_pyIter_zip hz ?_
  have I2 : Inv X pins σ H1 { s1 with heap := h', toks := s1.toks } := I1.kept hk
  refine ⟨s1.heap.objs.size + 4, [s1.heap.objs.size + 4, s1.heap.objs.size + 2, s1.heap.objs.size + 3, s1.heap.objs.size, s1.heap.objs.size + 1], _, _, H1, rfl, I2, turn_zip x y (s1.heap.objs.size + 4) (s1.heap.objs.size + 2) (s1.heap.objs.size + 3) s1.heap.objs.size (s1.heap.objs.size + 1) ⟨nea (by omega), nea (by omega), nea (by omega), nea (by omega), nea (by omega), nea (by omega), nea (by omega), nea (by omega), nea (by omega), nea (by omega)⟩, ⟨hz, hTI, ⟨_, _, hTO⟩, hi1, hi2⟩, fun c hb => ?_, q⟩
  have hc : s1.heap.objs.size ≤ c := by
    simp only [List.mem_cons, List.not_mem_nil, or_false] at hb
    rcases hb with rfl | rfl | rfl | rfl | rfl
    · exact Nat.le_add_right _ _
    · exact Nat.le_add_right _ _
    · exact Nat.le_add_right _ _
    · exact Nat.le_refl _
    · exact Nat.le_add_right _ _
  exact I1.fpOk hc (I1.hok.fresh hc)
section
variable {H : Hp} {K : PySem.W.Frag}
theorem k_pzip (K : PySem.W.Frag) {X : Cx} {elts : List Expr} {k : Nat} {tp : Pos} {a b : Expr} {ta : TA} {p pos : Pos} (hg : Gl X "zip") (hm : X.mg "zip" = none) (ha : PA X [a, b] ta) (hs : starEach [a, b] X.env = [(false, eval a X.env), (false, eval b X.env)] := by rfl) (hs2 : starEach [b] X.env = [(false, eval b X.env)] := by rfl) (h : X.K = K := by rfl) :
    PI X (.Tuple elts k tp) (.Call (.Name "zip" p) [a, b] [] pos) (iZip K ta) := h ▸ pi_zip hg hm ha hs hs2
theorem rd_zip {σ : St} {ta : TA} {R : It → Hp → Prop} (h : ta σ H fun vs H1 => ∃ a b, vs = [.ref a, .ref b] ∧ (∃ xs, SqL K H1 a xs) ∧ (∃ ys, SqL K H1 b ys) ∧ R (Itz K a b) H1) : iZip K ta σ H R := h
end
end L2

set_option Elab.async false
set_option linter.all false
set_option maxRecDepth 100000
set_option maxHeartbeats 1000000
namespace L2
open PySem PySem.Spec PyProof.Rows
/-! ### len(set(l)) of a list of ints -/
section
variable {X : Cx}
noncomputable def nubN (ns : List Int) : Nat := (firstMet (fun i => ns.getD i 0) ns.length).length
noncomputable def tLenSet (K : PySem.W.Frag) (ta : TA) : TE := fun σ H Q => ta σ H fun vs H1 => ∃ (p : Addr) (ns : List Int), vs = [.ref p] ∧ SqL K H1 p (ns.map V.int) ∧ ns.length ≤ 1000 ∧ Q (.int (nubN ns : Nat)) H1
theorem pe_lenSet {e : Expr} {ta : TA} {p1 p2 p3 p4 : Pos} (hc : X.calm = true) (hg : Gl X "len") (hm : X.mg "len" = none) (hg2 : Gl X "set") (hm2 : X.mg "set" = none) (ha : PA X [e] ta) (hs : starEach [e] X.env = [(false, eval e X.env)] := by rfl)
    (hs2 : starEach [Expr.Call (.Name "set" p2) [e] [] p3] X.env = [(false, eval (.Call (.Name "set" p2) [e] [] p3) X.env)] := by rfl) :
    PE X (.Call (.Name "len" p1) [.Call (.Name "set" p2) [e] [] p3] [] p4) (tLenSet X.K ta) := by
  intro pins s σ H Q I h
  refine wpAny_Call_Name_kw (ld_blt I hg hm bt_len (PyProof.Rows.callWith_builtin1 ?_ hs2 rfl) (by decide) (by decide))
  rw [hs2]
  show wpAny _ _ (spliced ((false, eval (.Call (.Name "set" p2) [e] [] p3) X.env) :: backTo p4 [])) _ _ s
  refine Calls.spliced_cons (Call_ (ld_blt I hg2 hm2 bt_set (PyProof.Rows.callWith_type1 (thn (ha p3 pins s σ H _ I h) fun us s1 ⟨vs, H1, I1, r1, q1⟩ => ?_) hs rfl)))
  obtain ⟨b, ns, e, hq, hz1, q⟩ := q1
  subst e
  obtain ⟨u, rfl, rx⟩ := Vals.one r1
  obtain rfl : u = Value.ref b := rx
  obtain ⟨its, rv, pl, hz⟩ := I1.list hq
  have hi := intsAre_of rv
  have hsz : its.toArray.size = ns.length := by rw [List.size_toArray, ← rv.length, List.length_map]
  have hsc : its.toArray.size + 1 < scanBound := Nat.lt_of_le_of_lt (Nat.succ_le_succ (by rw [hsz]; exact hz1)) (by decide)
  refine call_set_list (I1.ok.hd hc) pl.isList hi hsc fun h' tk hS hk => ?_
  have I2 : Inv X pins σ H1 { s1 with heap := h', toks := tk } := I1.kept fun c o e => hk c o (Heap.lt_size e) e
  refine Calls.spliced_nil ?_
  rw [hsz] at hS
  obtain ⟨o, es, ep, tb, ho, hex, hd, _, _, hb, hf, hn⟩ := hS
  refine call_len_set (s := { s1 with heap := h', toks := tk }) ho hex hd hf (by have : es.size < 2 ^ 62 := Nat.lt_of_lt_of_le hb (by decide); omega) ?_
  refine ⟨.int (nubN ns : Nat), H1, I2.kept (t' := tk + 1 + 1) fun c o e => e, ⟨tk + 1, ?_⟩, q⟩
  rw [hn]
  rfl
theorem k_lenSet (K : PySem.W.Frag) {e : Expr} {ta : TA} {p1 p2 p3 p4 : Pos} (hg : Gl X "len") (hm : X.mg "len" = none) (hg2 : Gl X "set") (hm2 : X.mg "set" = none) (ha : PA X [e] ta) (hc : X.calm = true := by rfl) (h : X.K = K := by rfl) (hs : starEach [e] X.env = [(false, eval e X.env)] := by rfl)
    (hs2 : starEach [Expr.Call (.Name "set" p2) [e] [] p3] X.env = [(false, eval (.Call (.Name "set" p2) [e] [] p3) X.env)] := by rfl) :
    PE X (.Call (.Name "len" p1) [.Call (.Name "set" p2) [e] [] p3] [] p4) (tLenSet K ta) := h ▸ pe_lenSet hc hg hm hg2 hm2 ha hs hs2
theorem rd_lenSet {K : PySem.W.Frag} {σ : St} {H : Hp} {Q : VK} {ta : TA} (h : ta σ H fun vs H1 => ∃ (p : Addr) (ns : List Int), vs = [.ref p] ∧ SqL K H1 p (ns.map V.int) ∧ ns.length ≤ 1000 ∧ Q (.int (nubN ns : Nat)) H1) : tLenSet K ta σ H Q := h
/-! how many there are -/
theorem met_nd (val : Nat → Int) : ∀ i, (∀ a b, a < b → b < i → val a ≠ val b) → (firstMet val i).length = i
  | 0, _ => rfl
  | i + 1, h => by
    rw [firstMet_succ, step_length, firstMet_any, if_neg, met_nd val i fun a b h1 h2 => h a b h1 (by omega)]
    intro z
    obtain ⟨x, hx, e⟩ := List.any_eq_true.mp z
    obtain ⟨a, ha, rfl⟩ := List.mem_map.mp hx
    have := List.mem_range.mp ha
    exact h a i this (by omega) (eq_of_beq e)
theorem met_dup (val : Nat → Int) : ∀ i a b, a < b → b < i → val a = val b → (firstMet val i).length < i
  | 0, _, _, _, h, _ => absurd h (Nat.not_lt_zero _)
  | i + 1, a, b, hab, hb, e => by
    rw [firstMet_succ, step_length]
    have le := firstMet_length_le val i
    by_cases z : b < i
    · have := met_dup val i a b hab z e
      split <;> omega
    · have eb : b = i := by omega
      subst eb
      rw [firstMet_any, if_pos]
      · omega
      · exact List.any_eq_true.mpr ⟨val a, List.mem_map.mpr ⟨a, List.mem_range.mpr hab, rfl⟩, by rw [e]; exact beq_self_eq_true _⟩
theorem nub_nd {ns : List Int} (h : ns.Nodup) : nubN ns = ns.length := by
  refine met_nd _ _ fun a b hab hb => ?_
  rw [List.getD_eq_getElem?_getD, List.getD_eq_getElem?_getD, List.getElem?_eq_getElem (by omega), List.getElem?_eq_getElem hb]
  exact List.pairwise_iff_getElem.mp h a b (by omega) hb hab
/-! ### sum of a list of ints -/
noncomputable def rSumA (K : PySem.W.Frag) : List V → Hp → VK → Prop := fun xs H Q => ∃ (p : Addr) (ns : List Int), xs = [.ref p] ∧ SqL K H p (ns.map V.int) ∧ Q (.int ns.sum) H
theorem call_sumA (hc : X.calm = true) : CallR X (.builtin "sum") (rSumA X.K) := by
  intro pins s σ H xs us Q I r h
  obtain ⟨p, ns, rfl, hq, q⟩ := h
  obtain ⟨u, rfl, rx⟩ := Vals.one r
  cases (show u = Value.ref p from rx)
  obtain ⟨its, rv, pl, hz⟩ := I.list hq
  have hi := intsAre_of rv
  have li := pl.isList
  obtain ⟨zs, e⟩ := hi.allInts.items
  have en : ns = zs.toList.map (·.1) := by rw [← hi.numsOf, ← nums_intItems, ← e]
  have ez : zs.size = ns.length := by rw [en, List.length_map, Array.length_toList]
  rw [e] at li
  refine sum_intListG (I.ok.hd hc) li fun g tk' t' hk => ?_
  rw [preSum_eq, ← en, ez, List.take_length]
  exact ⟨.int ns.sum, H, I.kept (t' := tk') hk, ⟨t', rfl⟩, q⟩
theorem k_sumA (K : PySem.W.Frag) (hc : X.calm = true := by rfl) (h : X.K = K := by rfl) : CallR X (.builtin "sum") (rSumA K) := h ▸ call_sumA hc
theorem rd_sumA {K : PySem.W.Frag} {H : Hp} {Q : VK} {p : Addr} {ns : List Int} (e : H p = some (.lst (ns.map V.int))) (h : Q (.int ns.sum) H) : rSumA K [.ref p] H Q := ⟨p, ns, rfl, SqL.of e, h⟩
end
end L2

set_option Elab.async false
set_option linter.all false
/-! Orders told by a least difference: the mathematics, over plain functions -/
namespace Nt
section
variable {n : Nat} {R : Nat → Nat → Prop}
/-- x tells R by s -/
noncomputable def Con (n : Nat) (R : Nat → Nat → Prop) (s : Int) (x : Nat → Int) : Prop := ∀ i j, i < n → j < n → (x j - x i ≥ s ↔ R i j)
noncomputable def NN (n : Nat) (x : Nat → Int) : Prop := ∀ i, i < n → 0 ≤ x i
/-- a tight path: k t: the t-th step is one of R's -/
structure TP (n : Nat) (R : Nat → Nat → Prop) (s : Int) (x : Nat → Int) (N : Nat) (v : Nat → Nat) (k : Nat → Bool) : Prop where
  lt : ∀ t, t ≤ N → v t < n
  st : x (v 0) = 0
  up : ∀ t, t < N → k t = true → R (v t) (v (t + 1)) ∧ x (v (t + 1)) = x (v t) + s
  dn : ∀ t, t < N → k t = false → ¬ R (v (t + 1)) (v t) ∧ x (v (t + 1)) = x (v t) + 1 - s
noncomputable def D (k : Nat → Bool) : Nat → Int
  | 0 => 0
  | t + 1 => D k t + (if k t = true then 1 else -1)
noncomputable def Mc (k : Nat → Bool) : Nat → Int
  | 0 => 0
  | t + 1 => Mc k t + (if k t = true then 0 else 1)
theorem TP.val {s : Int} {x : Nat → Int} {N : Nat} {v : Nat → Nat} {k : Nat → Bool} (p : TP n R s x N v k) : ∀ t, t ≤ N → x (v t) = D k t * s + Mc k t
  | 0, _ => by rw [p.st]; simp [D, Mc]
  | t + 1, h => by
    have ih := p.val t (by omega)
    simp only [D, Mc]
    cases hk : k t with
    | true =>
      rw [(p.up t (by omega) hk).2, ih, if_pos rfl, if_pos rfl, Int.add_mul]
      omega
    | false =>
      rw [(p.dn t (by omega) hk).2, ih, if_neg Bool.false_ne_true, if_neg Bool.false_ne_true, Int.add_mul]
      omega
/-- a path cut short between two places of the same number -/
theorem TP.cut {s : Int} {x : Nat → Int} (hx : Con n R s x) {N : Nat} {v : Nat → Nat} {k : Nat → Bool} (p : TP n R s x N v k) {a b : Nat} (hab : a < b) (hb : b ≤ N) (e : x (v a) = x (v b)) (hbN : b < N) :
    TP n R s x (N - (b - a)) (fun t => if t ≤ a then v t else v (t + (b - a))) (fun t => if t < a then k t else k (t + (b - a))) where
  lt := fun t ht => by
    by_cases h : t ≤ a
    · rw [if_pos h]; exact p.lt t (by omega)
    · rw [if_neg h]; exact p.lt _ (by omega)
  st := by rw [if_pos (Nat.zero_le _)]; exact p.st
  up := fun t ht hk => by
    by_cases h : t < a
    · rw [if_pos h] at hk
      rw [if_pos (by omega), if_pos (by omega)]
      exact p.up t (by omega) hk
    · rw [if_neg h] at hk
      have q := p.up (t + (b - a)) (by omega) hk
      rw [if_neg (by omega : ¬ t + 1 ≤ a)]
      have e1 : t + 1 + (b - a) = t + (b - a) + 1 := by omega
      rw [e1]
      by_cases h2 : t ≤ a
      · have ta : t = a := by omega
        subst ta
        rw [if_pos (Nat.le_refl _)]
        have eb : t + (b - t) = b := by omega
        rw [eb] at q ⊢
        refine ⟨?_, by rw [e]; exact q.2⟩
        exact (hx _ _ (p.lt t (by omega)) (p.lt _ (by omega))).mp (by rw [q.2, e]; omega)
      · rw [if_neg h2]; exact q
  dn := fun t ht hk => by
    by_cases h : t < a
    · rw [if_pos h] at hk
      rw [if_pos (by omega), if_pos (by omega)]
      exact p.dn t (by omega) hk
    · rw [if_neg h] at hk
      have q := p.dn (t + (b - a)) (by omega) hk
      rw [if_neg (by omega : ¬ t + 1 ≤ a)]
      have e1 : t + 1 + (b - a) = t + (b - a) + 1 := by omega
      rw [e1]
      by_cases h2 : t ≤ a
      · have ta : t = a := by omega
        subst ta
        rw [if_pos (Nat.le_refl _)]
        have eb : t + (b - t) = b := by omega
        rw [eb] at q ⊢
        refine ⟨fun hR => q.1 ?_, by rw [e]; exact q.2⟩
        have := (hx _ _ (p.lt _ (by omega)) (p.lt t (by omega))).mpr hR
        exact (hx _ _ (p.lt _ (by omega)) (p.lt b (by omega))).mp (by rw [e] at this; exact this)
      · rw [if_neg h2]; exact q
/-- from below to above by steps of one: met on the way -/
theorem met (f : Nat → Int) (c : Int) : ∀ m : Nat, f 0 < c → c ≤ f m → (∀ j, f (j + 1) ≤ f j + 1) → ∃ j, j ≤ m ∧ f j = c
  | 0, h1, h2, _ => by omega
  | m + 1, h1, h2, h3 => by
    by_cases h : c ≤ f m
    · obtain ⟨j, a, b⟩ := met f c m h1 h h3
      exact ⟨j, by omega, b⟩
    · have := h3 m
      exact ⟨m + 1, Nat.le_refl _, by omega⟩
theorem TP.end {s : Int} {x : Nat → Int} (hx : Con n R s x) {N : Nat} {v : Nat → Nat} {k : Nat → Bool} (p : TP n R s x N v k) {a : Nat} (ha : a < N) (e : x (v a) = x (v N)) :
    TP n R s x a (fun t => if t < a then v t else v N) k where
  lt := fun t ht => by
    show (if t < a then v t else v N) < n
    split
    · exact p.lt t (by omega)
    · exact p.lt N (Nat.le_refl _)
  st := by
    show x (if 0 < a then v 0 else v N) = 0
    split
    · exact p.st
    · have ea : a = 0 := by omega
      subst ea
      rw [← e]; exact p.st
  up := fun t ht hk => by
    show R (if t < a then v t else v N) (if t + 1 < a then v (t + 1) else v N) ∧ x (if t + 1 < a then v (t + 1) else v N) = x (if t < a then v t else v N) + s
    have q := p.up t (by omega) hk
    rw [if_pos ht]
    by_cases g : t + 1 < a
    · rw [if_pos g]; exact q
    · rw [if_neg g]
      have ea : t + 1 = a := by omega
      rw [ea, e] at q
      exact ⟨(hx _ _ (p.lt t (by omega)) (p.lt N (Nat.le_refl _))).mp (by omega), q.2⟩
  dn := fun t ht hk => by
    show ¬ R (if t + 1 < a then v (t + 1) else v N) (if t < a then v t else v N) ∧ x (if t + 1 < a then v (t + 1) else v N) = x (if t < a then v t else v N) + 1 - s
    have q := p.dn t (by omega) hk
    rw [if_pos ht]
    by_cases g : t + 1 < a
    · rw [if_pos g]; exact q
    · rw [if_neg g]
      have ea : t + 1 = a := by omega
      rw [ea, e] at q
      refine ⟨fun hR => ?_, q.2⟩
      have := (hx _ _ (p.lt N (Nat.le_refl _)) (p.lt t (by omega))).mpr hR
      omega
end
end Nt

set_option Elab.async false
set_option linter.all false
namespace Nt
section
variable {n : Nat} {R : Nat → Nat → Prop}
end
/-! a sum that is least -/
noncomputable def sumTo (x : Nat → Int) : Nat → Int
  | 0 => 0
  | n + 1 => sumTo x n + x n
theorem sum_nn {x : Nat → Int} : ∀ {n : Nat}, NN n x → 0 ≤ sumTo x n
  | 0, _ => Int.le_refl _
  | n + 1, h => by
    have a := sum_nn (n := n) fun i hi => h i (by omega)
    have b := h n (by omega)
    simp only [sumTo]
    omega
theorem sum_lt {x y : Nat → Int} : ∀ {n : Nat} {v : Nat}, (∀ i, i < n → y i ≤ x i) → v < n → y v < x v → sumTo y n < sumTo x n
  | 0, v, _, hv, _ => absurd hv (Nat.not_lt_zero _)
  | n + 1, v, h, hv, hl => by
    simp only [sumTo]
    by_cases e : v = n
    · subst e
      have le : ∀ m, m ≤ v → sumTo y m ≤ sumTo x m := fun m => by
        induction m with
        | zero => intro _; exact Int.le_refl _
        | succ m ih =>
          intro hm
          have a := ih (by omega)
          have b := h m (by omega)
          simp only [sumTo]
          omega
      have a := le v (Nat.le_refl _)
      omega
    · have a := sum_lt (n := n) (v := v) (fun i hi => h i (by omega)) (by omega) hl
      have b := h n (by omega)
      omega
/-- of some functions with a property, none below nought, one whose sum is least -/
theorem least_sum {n : Nat} {p : (Nat → Int) → Prop} : ∀ (m : Nat) (x : Nat → Int), p x → NN n x → sumTo x n = (m : Int) → ∃ y, p y ∧ NN n y ∧ ∀ z, p z → NN n z → sumTo y n ≤ sumTo z n := by
  intro m
  induction m using Nat.strongRecOn with
  | ind m ih =>
    intro x px nx ex
    by_cases h : ∃ z, p z ∧ NN n z ∧ sumTo z n < sumTo x n
    · obtain ⟨z, pz, nz, lz⟩ := h
      have s0 := sum_nn nz
      exact ih (sumTo z n).toNat (by omega) z pz nz (by omega)
    · exact ⟨x, px, nx, fun z pz nz => by
        by_cases g : sumTo x n ≤ sumTo z n
        · exact g
        · exact absurd ⟨z, pz, nz, by omega⟩ h⟩
theorem countP_lt {p q : Nat → Bool} : ∀ {l : List Nat} {v : Nat}, (∀ i ∈ l, p i = true → q i = true) → v ∈ l → p v = false → q v = true → l.countP p < l.countP q
  | [], v, _, hv, _, _ => by cases hv
  | a :: l, v, h, hv, h1, h2 => by
    have le : ∀ m : List Nat, (∀ i ∈ m, p i = true → q i = true) → m.countP p ≤ m.countP q := fun m => by
      induction m with
      | nil => intro _; exact Nat.le_refl _
      | cons b m ih =>
        intro g
        have i1 := ih fun i hi => g i (List.mem_cons_of_mem _ hi)
        have i2 := g b List.mem_cons_self
        simp only [List.countP_cons]
        cases hb : p b with
        | true => rw [i2 hb]; simp; exact i1
        | false => simp; omega
    simp only [List.countP_cons]
    by_cases e : v = a
    · subst e
      have i1 := le l fun i hi => h i (List.mem_cons_of_mem _ hi)
      rw [h1, h2]
      simp
      omega
    · have hv' : v ∈ l := by
        rcases List.mem_cons.mp hv with g | g
        · exact absurd g e
        · exact g
      have ih := countP_lt (l := l) (fun i hi => h i (List.mem_cons_of_mem _ hi)) hv' h1 h2
      have i2 := h a List.mem_cons_self
      cases ha : p a with
      | true => rw [i2 ha]; simp; exact ih
      | false => simp; omega
end Nt

set_option Elab.async false
set_option linter.all false
set_option maxRecDepth 100000
set_option maxHeartbeats 4000000
namespace My
open PySem L2
noncomputable def top (i : Nat) : Stmt := PySem.Challenge.pw_noticed_k04_whole_rounds.main.body.getD i (.Pass ⟨0, 0, 0, 0⟩)
noncomputable abbrev s_is_whole : Stmt := top 7
noncomputable abbrev s_is_thing : Stmt := top 8
noncomputable abbrev s_is_pair : Stmt := top 9
noncomputable abbrev s_is_rising : Stmt := top 10
noncomputable abbrev s_is_order : Stmt := top 11
noncomputable abbrev s_is_step : Stmt := top 12
noncomputable abbrev s_need_order : Stmt := top 13
noncomputable abbrev s_need_step : Stmt := top 14
noncomputable abbrev s_demand : Stmt := top 16
noncomputable abbrev s_all_demands : Stmt := top 17
noncomputable abbrev s_raise_once : Stmt := top 18
noncomputable abbrev s_raise_all : Stmt := top 19
noncomputable abbrev s_least_values : Stmt := top 20
noncomputable abbrev s_round_behind : Stmt := top 21
noncomputable abbrev s_things_in_round : Stmt := top 22
noncomputable abbrev s_numbers : Stmt := top 23
noncomputable abbrev s_round_of : Stmt := top 24
noncomputable abbrev s_are_unlike_things : Stmt := top 25
noncomputable abbrev s_come_above_nothing : Stmt := top 26
noncomputable abbrev s_is_round : Stmt := top 27
noncomputable abbrev s__law_cell_at : Stmt := top 29
noncomputable abbrev s__law_mixed : Stmt := top 30
noncomputable abbrev s__law_draw : Stmt := top 31
noncomputable abbrev s__law_pick : Stmt := top 32
noncomputable abbrev s__law_by : Stmt := top 33
noncomputable abbrev s__law_order : Stmt := top 34
noncomputable abbrev s__law_least : Stmt := top 35
noncomputable abbrev s__law_due : Stmt := top 36
noncomputable abbrev s_law : Stmt := top 37
theorem sc_is_whole : FnScope ["value", "low", "high"] ["value", "low", "high"] (defScope s_is_whole) := ⟨rfl, rfl, rfl, by decide +kernel, rfl, by decide +kernel, by decide +kernel⟩
theorem sc_is_thing : FnScope ["value", "many"] ["value", "many"] (defScope s_is_thing) := ⟨rfl, rfl, rfl, by decide +kernel, rfl, by decide +kernel, by decide +kernel⟩
theorem sc_is_pair : FnScope ["value", "many"] ["value", "many"] (defScope s_is_pair) := ⟨rfl, rfl, rfl, by decide +kernel, rfl, by decide +kernel, by decide +kernel⟩
theorem sc_is_rising : FnScope ["pairs"] ["pairs"] (defScope s_is_rising) := ⟨rfl, rfl, rfl, by decide +kernel, rfl, by decide +kernel, by decide +kernel⟩
theorem sc_is_order : FnScope ["value", "many", "pairs"] ["value"] (defScope s_is_order) := ⟨rfl, rfl, rfl, by decide +kernel, rfl, by decide +kernel, by decide +kernel⟩
theorem sc_is_step : FnScope ["value"] ["value"] (defScope s_is_step) := ⟨rfl, rfl, rfl, by decide +kernel, rfl, by decide +kernel, by decide +kernel⟩
theorem sc_need_order : FnScope ["value"] ["value"] (defScope s_need_order) := ⟨rfl, rfl, rfl, by decide +kernel, rfl, by decide +kernel, by decide +kernel⟩
theorem sc_need_step : FnScope ["value"] ["value"] (defScope s_need_step) := ⟨rfl, rfl, rfl, by decide +kernel, rfl, by decide +kernel, by decide +kernel⟩
theorem sc_demand : FnScope ["pairs", "step", "one", "other"] ["pairs", "step", "one", "other"] (defScope s_demand) := ⟨rfl, rfl, rfl, by decide +kernel, rfl, by decide +kernel, by decide +kernel⟩
theorem sc_all_demands : FnScope ["order", "step", "demands", "one", "other", "by"] ["order", "step"] (defScope s_all_demands) := ⟨rfl, rfl, rfl, by decide +kernel, rfl, by decide +kernel, by decide +kernel⟩
theorem sc_raise_once : FnScope ["demands", "values", "origins", "raised", "one", "other", "by"] ["demands", "values", "origins"] (defScope s_raise_once) := ⟨rfl, rfl, rfl, by decide +kernel, rfl, by decide +kernel, by decide +kernel⟩
theorem sc_raise_all : FnScope ["demands", "values", "origins", "raised", "turn"] ["demands", "values", "origins"] (defScope s_raise_all) := ⟨rfl, rfl, rfl, by decide +kernel, rfl, by decide +kernel, by decide +kernel⟩
theorem sc_least_values : FnScope ["many", "demands", "values"] ["many", "demands"] (defScope s_least_values) := ⟨rfl, rfl, rfl, by decide +kernel, rfl, by decide +kernel, by decide +kernel⟩
theorem sc_round_behind : FnScope ["origins", "raised", "start", "turn", "things", "thing"] ["origins", "raised"] (defScope s_round_behind) := ⟨rfl, rfl, rfl, by decide +kernel, rfl, by decide +kernel, by decide +kernel⟩
theorem sc_things_in_round : FnScope ["many", "demands", "origins", "raised"] ["many", "demands"] (defScope s_things_in_round) := ⟨rfl, rfl, rfl, by decide +kernel, rfl, by decide +kernel, by decide +kernel⟩
theorem sc_numbers : FnScope ["order", "step"] ["order", "step"] (defScope s_numbers) := ⟨rfl, rfl, rfl, by decide +kernel, rfl, by decide +kernel, by decide +kernel⟩
theorem sc_round_of : FnScope ["order", "step"] ["order", "step"] (defScope s_round_of) := ⟨rfl, rfl, rfl, by decide +kernel, rfl, by decide +kernel, by decide +kernel⟩
theorem sc_are_unlike_things : FnScope ["value", "many"] ["value", "many"] (defScope s_are_unlike_things) := ⟨rfl, rfl, rfl, by decide +kernel, rfl, by decide +kernel, by decide +kernel⟩
theorem sc_come_above_nothing : FnScope ["demands"] ["demands"] (defScope s_come_above_nothing) := ⟨rfl, rfl, rfl, by decide +kernel, rfl, by decide +kernel, by decide +kernel⟩
theorem sc_is_round : FnScope ["order", "step", "thing", "demands"] ["order", "step", "thing"] (defScope s_is_round) := ⟨rfl, rfl, rfl, by decide +kernel, rfl, by decide +kernel, by decide +kernel⟩
theorem sc__law_cell_at : FnScope ["_law_script", "_law_k"] ["_law_script", "_law_k"] (defScope s__law_cell_at) := ⟨rfl, rfl, rfl, by decide +kernel, rfl, by decide +kernel, by decide +kernel⟩
theorem sc__law_mixed : FnScope ["_law_script", "_law_k", "_law_many", "_law_drawn"] ["_law_script", "_law_k", "_law_many"] (defScope s__law_mixed) := ⟨rfl, rfl, rfl, by decide +kernel, rfl, by decide +kernel, by decide +kernel⟩
theorem sc__law_draw : FnScope ["_law_script", "_law_town", "_law_many"] ["_law_script", "_law_town", "_law_many"] (defScope s__law_draw) := ⟨rfl, rfl, rfl, by decide +kernel, rfl, by decide +kernel, by decide +kernel⟩
theorem sc__law_pick : FnScope ["_law_script", "_law_town", "_law_some"] ["_law_script", "_law_town", "_law_some"] (defScope s__law_pick) := ⟨rfl, rfl, rfl, by decide +kernel, rfl, by decide +kernel, by decide +kernel⟩
theorem sc__law_by : FnScope ["_law_step", "_law_longs", "_law_pairs", "_law_one", "_law_other"] ["_law_step", "_law_longs"] (defScope s__law_by) := ⟨rfl, rfl, rfl, by decide +kernel, rfl, by decide +kernel, by decide +kernel⟩
theorem sc__law_order : FnScope ["_law_script", "_law_town", "_law_most", "_law_many", "_law_k", "_law_longs", "_law_order_here", "_law_pairs", "_law_one", "_law_other"] ["_law_script", "_law_town", "_law_most"] (defScope s__law_order) := ⟨rfl, rfl, rfl, by decide +kernel, rfl, by decide +kernel, by decide +kernel⟩
theorem sc__law_least : FnScope ["_law_order_here", "_law_step", "_law_line", "_law_turn", "_law_before", "_law_one", "_law_other", "_law_more"] ["_law_order_here", "_law_step"] (defScope s__law_least) := ⟨rfl, rfl, rfl, by decide +kernel, rfl, by decide +kernel, by decide +kernel⟩
theorem sc__law_due : FnScope ["_law_order_here", "_law_step", "_law_thing", "_law_total", "_law_one", "_law_other"] ["_law_order_here", "_law_step", "_law_thing"] (defScope s__law_due) := ⟨rfl, rfl, rfl, by decide +kernel, rfl, by decide +kernel, by decide +kernel⟩
theorem sc_law : FnScope ["_law_script", "_law_town", "_law_order_here", "_law_step", "_law_thing", "_law_none", "_law_k", "_law_at", "_law_one", "_law_news", "_law_found", "_law_number", "_law_bad"] ["_law_script"] (defScope s_law) := ⟨rfl, rfl, rfl, by decide +kernel, rfl, by decide +kernel, by decide +kernel⟩
set_option genSizeOf false in
set_option genInjectivity false in
structure Ad where
  a_is_whole : Addr
  d_is_whole : FuncData
  a_is_thing : Addr
  d_is_thing : FuncData
  a_is_pair : Addr
  d_is_pair : FuncData
  a_is_rising : Addr
  d_is_rising : FuncData
  a_is_order : Addr
  d_is_order : FuncData
  a_is_step : Addr
  d_is_step : FuncData
  a_need_order : Addr
  d_need_order : FuncData
  a_need_step : Addr
  d_need_step : FuncData
  a_demand : Addr
  d_demand : FuncData
  a_all_demands : Addr
  d_all_demands : FuncData
  a_raise_once : Addr
  d_raise_once : FuncData
  a_raise_all : Addr
  d_raise_all : FuncData
  a_least_values : Addr
  d_least_values : FuncData
  a_round_behind : Addr
  d_round_behind : FuncData
  a_things_in_round : Addr
  d_things_in_round : FuncData
  a_numbers : Addr
  d_numbers : FuncData
  a_round_of : Addr
  d_round_of : FuncData
  a_are_unlike_things : Addr
  d_are_unlike_things : FuncData
  a_come_above_nothing : Addr
  d_come_above_nothing : FuncData
  a_is_round : Addr
  d_is_round : FuncData
  a__law_cell_at : Addr
  d__law_cell_at : FuncData
  a__law_mixed : Addr
  d__law_mixed : FuncData
  a__law_draw : Addr
  d__law_draw : FuncData
  a__law_pick : Addr
  d__law_pick : FuncData
  a__law_by : Addr
  d__law_by : FuncData
  a__law_order : Addr
  d__law_order : FuncData
  a__law_least : Addr
  d__law_least : FuncData
  a__law_due : Addr
  d__law_due : FuncData
  a_law : Addr
  d_law : FuncData
structure Txt (K : PySem.W.Frag) (mg : Str → Option Value) (t : Ad) : Prop where
  m_is_whole : mg "is_whole" = some (.ref t.a_is_whole)
  F_is_whole : Fun K "is_whole" "is_whole" s_is_whole t.a_is_whole t.d_is_whole
  b_is_whole : Binds K t.d_is_whole ["value", "low", "high"] []
  m_is_thing : mg "is_thing" = some (.ref t.a_is_thing)
  F_is_thing : Fun K "is_thing" "is_thing" s_is_thing t.a_is_thing t.d_is_thing
  b_is_thing : Binds K t.d_is_thing ["value", "many"] []
  m_is_pair : mg "is_pair" = some (.ref t.a_is_pair)
  F_is_pair : Fun K "is_pair" "is_pair" s_is_pair t.a_is_pair t.d_is_pair
  b_is_pair : Binds K t.d_is_pair ["value", "many"] []
  m_is_rising : mg "is_rising" = some (.ref t.a_is_rising)
  F_is_rising : Fun K "is_rising" "is_rising" s_is_rising t.a_is_rising t.d_is_rising
  b_is_rising : Binds K t.d_is_rising ["pairs"] []
  m_is_order : mg "is_order" = some (.ref t.a_is_order)
  F_is_order : Fun K "is_order" "is_order" s_is_order t.a_is_order t.d_is_order
  b_is_order : Binds K t.d_is_order ["value"] []
  m_is_step : mg "is_step" = some (.ref t.a_is_step)
  F_is_step : Fun K "is_step" "is_step" s_is_step t.a_is_step t.d_is_step
  b_is_step : Binds K t.d_is_step ["value"] []
  m_need_order : mg "need_order" = some (.ref t.a_need_order)
  F_need_order : Fun K "need_order" "need_order" s_need_order t.a_need_order t.d_need_order
  b_need_order : Binds K t.d_need_order ["value"] []
  m_need_step : mg "need_step" = some (.ref t.a_need_step)
  F_need_step : Fun K "need_step" "need_step" s_need_step t.a_need_step t.d_need_step
  b_need_step : Binds K t.d_need_step ["value"] []
  m_demand : mg "demand" = some (.ref t.a_demand)
  F_demand : Fun K "demand" "demand" s_demand t.a_demand t.d_demand
  b_demand : Binds K t.d_demand ["pairs", "step", "one", "other"] []
  m_all_demands : mg "all_demands" = some (.ref t.a_all_demands)
  F_all_demands : Fun K "all_demands" "all_demands" s_all_demands t.a_all_demands t.d_all_demands
  b_all_demands : Binds K t.d_all_demands ["order", "step"] []
  m_raise_once : mg "raise_once" = some (.ref t.a_raise_once)
  F_raise_once : Fun K "raise_once" "raise_once" s_raise_once t.a_raise_once t.d_raise_once
  b_raise_once : Binds K t.d_raise_once ["demands", "values", "origins"] []
  m_raise_all : mg "raise_all" = some (.ref t.a_raise_all)
  F_raise_all : Fun K "raise_all" "raise_all" s_raise_all t.a_raise_all t.d_raise_all
  b_raise_all : Binds K t.d_raise_all ["demands", "values", "origins"] []
  m_least_values : mg "least_values" = some (.ref t.a_least_values)
  F_least_values : Fun K "least_values" "least_values" s_least_values t.a_least_values t.d_least_values
  b_least_values : Binds K t.d_least_values ["many", "demands"] []
  m_round_behind : mg "round_behind" = some (.ref t.a_round_behind)
  F_round_behind : Fun K "round_behind" "round_behind" s_round_behind t.a_round_behind t.d_round_behind
  b_round_behind : Binds K t.d_round_behind ["origins", "raised"] []
  m_things_in_round : mg "things_in_round" = some (.ref t.a_things_in_round)
  F_things_in_round : Fun K "things_in_round" "things_in_round" s_things_in_round t.a_things_in_round t.d_things_in_round
  b_things_in_round : Binds K t.d_things_in_round ["many", "demands"] []
  m_numbers : mg "numbers" = some (.ref t.a_numbers)
  F_numbers : Fun K "numbers" "numbers" s_numbers t.a_numbers t.d_numbers
  b_numbers : Binds K t.d_numbers ["order", "step"] []
  m_round_of : mg "round_of" = some (.ref t.a_round_of)
  F_round_of : Fun K "round_of" "round_of" s_round_of t.a_round_of t.d_round_of
  b_round_of : Binds K t.d_round_of ["order", "step"] []
  m_are_unlike_things : mg "are_unlike_things" = some (.ref t.a_are_unlike_things)
  F_are_unlike_things : Fun K "are_unlike_things" "are_unlike_things" s_are_unlike_things t.a_are_unlike_things t.d_are_unlike_things
  b_are_unlike_things : Binds K t.d_are_unlike_things ["value", "many"] []
  m_come_above_nothing : mg "come_above_nothing" = some (.ref t.a_come_above_nothing)
  F_come_above_nothing : Fun K "come_above_nothing" "come_above_nothing" s_come_above_nothing t.a_come_above_nothing t.d_come_above_nothing
  b_come_above_nothing : Binds K t.d_come_above_nothing ["demands"] []
  m_is_round : mg "is_round" = some (.ref t.a_is_round)
  F_is_round : Fun K "is_round" "is_round" s_is_round t.a_is_round t.d_is_round
  b_is_round : Binds K t.d_is_round ["order", "step", "thing"] []
  m__law_cell_at : mg "_law_cell_at" = some (.ref t.a__law_cell_at)
  F__law_cell_at : Fun K "_law_cell_at" "_law_cell_at" s__law_cell_at t.a__law_cell_at t.d__law_cell_at
  b__law_cell_at : Binds K t.d__law_cell_at ["_law_script", "_law_k"] []
  m__law_mixed : mg "_law_mixed" = some (.ref t.a__law_mixed)
  F__law_mixed : Fun K "_law_mixed" "_law_mixed" s__law_mixed t.a__law_mixed t.d__law_mixed
  b__law_mixed : Binds K t.d__law_mixed ["_law_script", "_law_k", "_law_many"] []
  m__law_draw : mg "_law_draw" = some (.ref t.a__law_draw)
  F__law_draw : Fun K "_law_draw" "_law_draw" s__law_draw t.a__law_draw t.d__law_draw
  b__law_draw : Binds K t.d__law_draw ["_law_script", "_law_town", "_law_many"] []
  m__law_pick : mg "_law_pick" = some (.ref t.a__law_pick)
  F__law_pick : Fun K "_law_pick" "_law_pick" s__law_pick t.a__law_pick t.d__law_pick
  b__law_pick : Binds K t.d__law_pick ["_law_script", "_law_town", "_law_some"] []
  m__law_by : mg "_law_by" = some (.ref t.a__law_by)
  F__law_by : Fun K "_law_by" "_law_by" s__law_by t.a__law_by t.d__law_by
  b__law_by : Binds K t.d__law_by ["_law_step", "_law_longs"] []
  m__law_order : mg "_law_order" = some (.ref t.a__law_order)
  F__law_order : Fun K "_law_order" "_law_order" s__law_order t.a__law_order t.d__law_order
  b__law_order : Binds K t.d__law_order ["_law_script", "_law_town", "_law_most"] []
  m__law_least : mg "_law_least" = some (.ref t.a__law_least)
  F__law_least : Fun K "_law_least" "_law_least" s__law_least t.a__law_least t.d__law_least
  b__law_least : Binds K t.d__law_least ["_law_order_here", "_law_step"] []
  m__law_due : mg "_law_due" = some (.ref t.a__law_due)
  F__law_due : Fun K "_law_due" "_law_due" s__law_due t.a__law_due t.d__law_due
  b__law_due : Binds K t.d__law_due ["_law_order_here", "_law_step", "_law_thing"] []
  m_law : mg "law" = some (.ref t.a_law)
  F_law : Fun K "law" "law" s_law t.a_law t.d_law
  b_law : Binds K t.d_law ["_law_script"] []
  n_all : mg "all" = none
  n_bool : mg "bool" = none
  n_int : mg "int" = none
  n_isinstance : mg "isinstance" = none
  n_len : mg "len" = none
  n_list : mg "list" = none
  n_max : mg "max" = none
  n_range : mg "range" = none
  n_reversed : mg "reversed" = none
  n_set : mg "set" = none
  n_sorted : mg "sorted" = none
  n_sum : mg "sum" = none
  n_tuple : mg "tuple" = none
  n_zip : mg "zip" = none
  c_MOST_STEP : ∃ tk, mg "MOST_STEP" = some (.int 999 tk)
  c_MOST_THINGS : ∃ tk, mg "MOST_THINGS" = some (.int 8 tk)

end My

local macro_rules | `(tactic| walk_at "rd") => `(tactic| (repeat (first |  with_reducible refine L2.rd_seq ?_ | with_reducible refine L2.rd_next ?_ | with_reducible refine L2.rd_ifS ?_ | with_reducible refine L2.rd_ret ?_ | with_reducible refine L2.rd_drop ?_ | with_reducible refine L2.rd_asg ?_ | with_reducible refine L2.rd_gname ?_ | ((with_reducible refine' L2.rd_var ?qe1 ?_); (case qe1 => exact rfl)) | with_reducible refine L2.rd_C ?_ | with_reducible refine L2.rd_for ?_ | with_reducible refine L2.rd_lc ?_ | with_reducible refine L2.rd_rng1 ?_ | with_reducible refine L2.rd_itup ?_ | with_reducible refine L2.rd_ilst ?_ | with_reducible refine L2.rd_yes ?_ | with_reducible refine L2.rd_ifE ?_ | with_reducible refine L2.rd_raise ?_ | with_reducible refine L2.rd_while ?_ | with_reducible refine L2.rd_gsub ?_ | with_reducible refine L2.rd_bm ?_ | with_reducible refine L2.rd_gcons ?_ | with_reducible refine L2.rd_gnil ?_ | with_reducible refine L2.rd_test ?_ | with_reducible refine L2.rd_B ?_ | with_reducible refine L2.rd_bl ?_ | with_reducible refine L2.rd_op ?_ | with_reducible refine L2.rd_un ?_ | with_reducible refine L2.rd_I0 ?_ | with_reducible refine L2.rd_and ?_ | with_reducible refine L2.rd_or ?_ | with_reducible refine L2.rd_not ?_ | with_reducible refine L2.rd_andV ?_ | with_reducible refine L2.rd_orV ?_ | with_reducible refine L2.rd_notV ?_ | with_reducible refine L2.rd_blE ?_ | with_reducible refine L2.rd_nil ?_ | with_reducible refine L2.rd_cons ?_ | with_reducible refine L2.rd_tup ?_ | with_reducible refine L2.rd_lst ?_ | with_reducible refine L2.rd_call ?_ | with_reducible refine L2.rd_cb ?_ | with_reducible refine L2.rd_chain ?_ | with_reducible refine L2.rd_eqI ?_ | with_reducible refine L2.rd_neI ?_ | with_reducible refine L2.rd_eqB ?_ | with_reducible refine L2.rd_neB ?_ | with_reducible refine L2.rd_isN ?_ | with_reducible refine L2.rd_notN ?_ | with_reducible refine L2.rd_max2 ?_ | with_reducible refine L2.rd_int1 ?_ | with_reducible refine L2.iteT ?_ | with_reducible refine L2.iteF ?_ | with_reducible refine L2.if_nn ?_ | with_reducible refine L2.if_rn ?_ | with_reducible refine L2.if_in ?_ | with_reducible refine L2.if_nnN ?_ | with_reducible refine L2.if_rnN ?_ | with_reducible refine L2.if_inN ?_ | with_reducible refine L2.ifNT ?_ | with_reducible refine L2.ifNF ?_ | ((with_reducible refine' L2.rd_isBool ?qe1 ?_); (case qe1 => assumption)) | ((with_reducible refine' L2.rd_isInt ?qe1 ?_); (case qe1 => assumption)) | ((with_reducible refine' L2.rd_isTup ?qe1 ?_); (case qe1 => assumption)) | ((with_reducible refine' L2.rd_isLst ?qe1 ?_); (case qe1 => assumption)) | ((with_reducible refine' L2.rd_isStr ?qe1 ?_); (case qe1 => assumption)) | ((with_reducible refine' L2.rd_all ?qe1 ?_); (case qe1 => assumption)) | ((with_reducible refine' L2.rd_any ?qe1 ?_); (case qe1 => assumption)) | ((with_reducible refine' L2.rd_lenT ?qe1 ?_); (case qe1 => assumption)) | ((with_reducible refine' L2.rd_lenL ?qe1 ?_); (case qe1 => assumption)) | ((with_reducible refine' L2.rd_tupL ?qe1 ?_); (case qe1 => assumption)) | ((with_reducible refine' L2.rd_ixT ?qe1 ?qf1 ?_); (case qe1 => assumption); (case qf1 => exact rfl)) | ((with_reducible refine' L2.rd_ixL ?qe1 ?qf1 ?_); (case qe1 => assumption); (case qf1 => exact rfl)) | ((with_reducible refine L2.ifT ?_ ?_); with_reducible rfl) | ((with_reducible refine L2.ifF ?_ ?_); with_reducible rfl) | (dsimp only))))

set_option Elab.async false
set_option linter.all false
set_option maxRecDepth 100000
set_option maxHeartbeats 4000000
namespace My
open PySem L2
section
variable {P : Program} {w : World} {K : PySem.W.Frag} {mg : Str → Option Value} {base : Heap} {t : Ad}
/-! the mirror -/
noncomputable def wholeB (d : PyData) (lo hi : Int) : Bool := match d with | .int i => decide (lo ≤ i) && decide (i ≤ hi) | _ => false
noncomputable def sp_is_whole : Sp := fun vs H Q _ => ∃ x lo hi d, vs = [x, .int lo, .int hi] ∧ Is H x d ∧ Q (.bl (wholeB d lo hi)) H
theorem ok_is_whole (T : Txt K mg t) : FnOk P w K mg base CX0 1 t.a_is_whole t.d_is_whole ["value", "low", "high"] sp_is_whole := by
  refine T.F_is_whole.ok sc_is_whole (fun vs H Q E h => ?_) (fun cdv A outer s H vs Q E hr h => ?_)
  · obtain ⟨x, lo, hi, d, rfl, _⟩ := h
    rfl
  · obtain ⟨x, lo, hi, d, rfl, hx, q⟩ := h
    refine ⟨_, (pss_cons (ps_if (PW.pt (pw_or (pt_val (pe_callB c_isinst (by rfl) T.n_isinstance bt_isinstance (pa_cons (pv 0) (pa_cons (pe_bltn (v := .ty "bool") rfl T.n_bool bt_bool rfl) pa_nil)))) (pw_or1 (pt_not (pt_val (pe_callB c_isinst (by rfl) T.n_isinstance bt_isinstance (pa_cons (pv 0) (pa_cons (pe_bltn (v := .ty "int") rfl T.n_int bt_int rfl) pa_nil)))))))) (pss_one (ps_ret pe_bl)) pss_nil)
      (pss_one (ps_ret (pe_chain op_le op_le (pv 1) (pv 0) (pv 2))))), ?_⟩
    walk_at "rd"
    have hx2 := hx
    cases hx with
    | int i =>
      walk_at "rd"
      refine ifB (fun h => ?_) (fun h => ?_) <;> walk_at "rd" <;> simpa [wholeB, h] using q
    | _ => walk_at "rd" <;> exact q
noncomputable def sp_is_thing : Sp := fun vs H Q _ => ∃ x m d, vs = [x, .int m] ∧ Is H x d ∧ Q (.bl (wholeB d 0 (m - 1))) H
theorem ok_is_thing (T : Txt K mg t) : FnOk P w K mg base CX0 2 t.a_is_thing t.d_is_thing ["value", "many"] sp_is_thing := by
  refine T.F_is_thing.ok sc_is_thing (fun vs H Q E h => ?_) (fun cdv A outer s H vs Q E hr h => ?_)
  · obtain ⟨x, m, d, rfl, _⟩ := h
    rfl
  · obtain ⟨x, m, d, rfl, hx, q⟩ := h
    refine ⟨_, (pss_one (ps_ret (pe_call (ok_is_whole T) (hr.mono (by decide)) rfl T.m_is_whole T.F_is_whole.kp T.b_is_whole .nil pass0 (pa_cons (pv 0) (pa_cons pe_int (pa_cons (pe_op op_sub (pv 1) pe_int) pa_nil)))))), ?_⟩
    walk_at "rd"
    exact ⟨_, _, _, _, rfl, hx, q⟩
/-! pairs, orders -/
noncomputable def prD (p : Int × Int) : PyData := .tuple [.int p.1, .int p.2]
noncomputable def pairB (d : PyData) (m : Int) : Bool := match d with | .tuple [a, b] => wholeB a 0 (m - 1) && wholeB b 0 (m - 1) && !PyData.eqv a b | _ => false
noncomputable def sp_is_pair : Sp := fun vs H Q _ => ∃ x m d, vs = [x, .int m] ∧ Is H x d ∧ Q (.bl (pairB d m)) H
theorem pair_other {d : PyData} {m : Int} (h : ∀ a b, d ≠ .tuple [a, b]) : pairB d m = false := by
  unfold pairB
  split
  · rename_i a b
    exact absurd rfl (h a b)
  · rfl
theorem isTup_no {d : PyData} (h : ∀ ds, d ≠ .tuple ds) : isTupD d = false := by
  cases d <;> first | rfl | exact absurd rfl (h _)
theorem wholeB_int {d : PyData} {lo hi : Int} (h : wholeB d lo hi = true) : ∃ i : Int, d = .int i ∧ lo ≤ i ∧ i ≤ hi := by
  unfold wholeB at h
  split at h
  · rename_i i
    simp at h
    exact ⟨i, rfl, h.1, h.2⟩
  · cases h
theorem ok_is_pair (T : Txt K mg t) : FnOk P w K mg base CX0 3 t.a_is_pair t.d_is_pair ["value", "many"] sp_is_pair := by
  refine T.F_is_pair.ok sc_is_pair (fun vs H Q E h => ?_) (fun cdv A outer s H vs Q E hr h => ?_)
  · obtain ⟨x, m, d, rfl, _⟩ := h
    rfl
  · obtain ⟨x, m, d, rfl, hx, q⟩ := h
    refine ⟨_, (pss_cons (ps_if (PW.pt (pw_or (pt_not (pt_val (pe_callB c_isinst (by rfl) T.n_isinstance bt_isinstance (pa_cons (pv 0) (pa_cons (pe_bltn (v := .ty "tuple") rfl T.n_tuple bt_tuple rfl) pa_nil))))) (pw_or1 (pt_cmpR (op_neD hr.units) (pe_callB (k_len K) (by rfl) T.n_len bt_len (pa_cons (pv 0) pa_nil)) pe_int (nomark _))))) (pss_one (ps_ret pe_bl)) pss_nil)
      (pss_cons (ps_if (PW.pt (pw_or (pt_not (pt_val (pe_call (ok_is_thing T) (hr.mono (by decide)) rfl T.m_is_thing T.F_is_thing.kp T.b_is_thing .nil pass0 (pa_cons (pe_ix (k_ix K) (pv 0) pe_int (fun _ _ => rfl)) (pa_cons (pv 1) pa_nil))))) (pw_or1 (pt_not (pt_val (pe_call (ok_is_thing T) (hr.mono (by decide)) rfl T.m_is_thing T.F_is_thing.kp T.b_is_thing .nil pass0 (pa_cons (pe_ix (k_ix K) (pv 0) pe_int (fun _ _ => rfl)) (pa_cons (pv 1) pa_nil)))))))) (pss_one (ps_ret pe_bl)) pss_nil)
      (pss_one (ps_ret (pe_cmpR (op_neD hr.units) (pe_ix (k_ix K) (pv 0) pe_int (fun _ _ => rfl)) (pe_ix (k_ix K) (pv 0) pe_int (fun _ _ => rfl)) (nomark _)))))), ?_⟩
    walk_at "rd"
    by_cases hd : ∃ ds, d = .tuple ds
    · obtain ⟨ds, rfl⟩ := hd
      cases hx with
      | @tup a xs _ e hxs =>
      walk_at "rd"
      have hl := hxs.length
      refine ifB (fun h => ?_) (fun h => ?_)
      · walk_at "rd"
        rw [pair_other] at q
        · exact q
        · rintro a b ⟨⟩
          simp at hl
          simp [hl] at h
      · walk_at "rd"
        match xs, ds, hxs, hl with
        | [x1, x2], [d1, d2], .cons i1 (.cons i2 .nil), _ =>
          walk_at "rd"
          refine ⟨_, _, _, rfl, i1, ?_⟩
          walk_at "rd"
          have qe : pairB (.tuple [d1, d2]) m = (wholeB d1 0 (m - 1) && wholeB d2 0 (m - 1) && !PyData.eqv d1 d2) := rfl
          rw [qe] at q
          refine ifB (fun h1 => ?_) (fun h1 => ?_)
          · walk_at "rd"
            have h1' : wholeB d1 0 (m - 1) = false := by simpa using h1
            simpa [h1'] using q
          · walk_at "rd"
            refine ⟨_, _, _, rfl, i2, ?_⟩
            walk_at "rd"
            have h1' : wholeB d1 0 (m - 1) = true := by simpa using h1
            refine ifB (fun h2 => ?_) (fun h2 => ?_)
            · walk_at "rd"
              have h2' : wholeB d2 0 (m - 1) = false := by simpa using h2
              simpa [h2'] using q
            · walk_at "rd"
              have h2' : wholeB d2 0 (m - 1) = true := by simpa using h2
              obtain ⟨i, rfl, _⟩ := wholeB_int h1'
              obtain ⟨j, rfl, _⟩ := wholeB_int h2'
              refine rd_eqD i1 i2 ⟨rfl, Nat.zero_le _⟩ ⟨rfl, Nat.zero_le _⟩ ?_
              simpa [h1', h2'] using q
        | [], _, _, _ => simp at h
        | [_], _, _, _ => simp at h
        | _ :: _ :: _ :: _, _, _, _ => simp at h; omega
    · have hd' : ∀ ds, d ≠ .tuple ds := fun ds e => hd ⟨ds, e⟩
      rw [isTup_no hd']
      walk_at "rd"
      rw [pair_other fun a b => hd' _] at q
      exact q
noncomputable def risingB : List (Int × Int) → Bool
  | a :: b :: r => HT.lexLt [a.1, a.2] [b.1, b.2] && risingB (b :: r)
  | _ => true
theorem rising_range : ∀ ps : List (Int × Int), risingB ps = ((List.range (ps.length - 1)).map fun i => HT.lexLt [(ps.getD i (0, 0)).1, (ps.getD i (0, 0)).2] [(ps.getD (i + 1) (0, 0)).1, (ps.getD (i + 1) (0, 0)).2]).all id
  | [] => rfl
  | [a] => rfl
  | a :: b :: r => by
    rw [risingB, rising_range (b :: r)]
    have e : (a :: b :: r).length - 1 = ((b :: r).length - 1) + 1 := by simp
    rw [e, List.range_succ_eq_map, List.map_cons, List.all_cons, List.map_map]
    rfl
theorem _root_.L2.atI_of {α : Type} {xs : List α} {i : Nat} {k : Int} {v : α} (hk : k = (i : Int)) (h : xs[i]? = some v) : atI xs k = some v := by
  subst hk
  exact atI_nat h
theorem two_ints {H : Hp} {xs : List V} {a b : Int} (h : IsAll H xs [.int a, .int b]) : xs = [.int a, .int b] := by
  cases h with
  | cons h1 t =>
    cases t with
    | cons h2 t2 =>
      cases h1
      cases h2
      cases t2
      rfl
theorem two_io {H : Hp} {xs : List V} {a : Int} {ds : List PyData} (h : IsAll H xs [.int a, .tuple ds]) : ∃ b ys, xs = [.int a, .ref b] ∧ H b = some (.tup ys) ∧ IsAll H ys ds := by
  cases h with
  | cons h1 t =>
    cases t with
    | cons h2 t2 =>
      cases h1
      cases t2
      cases h2 with
      | tup eb hb => exact ⟨_, _, rfl, eb, hb⟩
theorem pr_at {H : Hp} {xs : List V} {ps : List (Int × Int)} {i : Nat} (h : IsAll H xs (ps.map prD)) (hi : i < ps.length) :
    ∃ r, xs[i]? = some (.ref r) ∧ H r = some (.tup [.int (ps.getD i (0, 0)).1, .int (ps.getD i (0, 0)).2]) := by
  obtain ⟨v, e, iv⟩ := h.get (i := i) (d := prD (ps.getD i (0, 0))) (by rw [List.getElem?_map]; simp [hi])
  unfold prD at iv
  cases iv with
  | @tup a xs _ ea hxs =>
    obtain rfl := two_ints hxs
    exact ⟨a, e, ea⟩
theorem small_ln {n : Nat} (h : n ≤ 1000) : n ≤ sizeLine := Nat.le_of_lt (small1000 h)
noncomputable def sp_is_rising : Sp := fun vs H Q _ => ∃ x ps, vs = [x] ∧ Is H x (.tuple (ps.map prD)) ∧ ps.length ≤ 1000 ∧ ∀ H', Same H H' → Q (.bl (risingB ps)) H'
theorem ok_is_rising (T : Txt K mg t) : FnOk P w K mg base CX0 1 t.a_is_rising t.d_is_rising ["pairs"] sp_is_rising := by
  refine T.F_is_rising.ok sc_is_rising (fun vs H Q E h => ?_) (fun cdv A outer s H vs Q E hr h => ?_)
  · obtain ⟨x, ps, rfl, _⟩ := h
    rfl
  · obtain ⟨x, ps, rfl, hx, hsz, q⟩ := h
    refine ⟨_, (pss_one (ps_ret (pe_callB (k_all K) (by rfl) T.n_all bt_all (pa_cons (pe_lc rfl ⟨True.intro, True.intro, (.inl rfl), True.intro⟩ (M := ["place", "pairs"]) (.own (.free 0 rfl rfl .nil)) (gk_name rfl) rfl (by decide +kernel) (pi_range1 rfl T.n_range (pa_cons (pe_op op_sub (pe_callB (k_len K) (by rfl) T.n_len bt_len (pa_cons (pv 0) pa_nil)) pe_int) pa_nil)) (fun C fp s1 H1 => ⟨pg_name (i := 0) (show (["place", "pairs"] : List Str).Nodup by decide +kernel) rfl (Or.inl rfl), pif_nil, (pe_cmpR (k_ltT K hr.units0) (pe_ix (k_ix K) (pv 1) (pv 0) (fun _ _ => rfl)) (pe_ix (k_ix K) (pv 1) (pe_op op_add (pv 0) pe_int) (fun _ _ => rfl)) (nomark _))⟩)) pa_nil)))), ?_⟩
    cases hx with
    | @tup a xs _ e hxs =>
    have hl : xs.length = ps.length := by rw [hxs.length, List.length_map]
    walk_at "rd"
    refine ⟨_, rfl, by omega, by omega, ?_⟩
    have en : ((xs.length : Int) - 1).toNat = ps.length - 1 := by omega
    rw [en]
    refine lp_range (small_ln (by omega)) (fun i ys H' => H' = H ∧ ys = ((List.range i).map fun i => HT.lexLt [(ps.getD i (0, 0)).1, (ps.getD i (0, 0)).2] [(ps.getD (i + 1) (0, 0)).1, (ps.getD (i + 1) (0, 0)).2]).map V.bl) ⟨rfl, rfl⟩ (by rintro i ys H' ⟨_, rfl⟩; simp) ?_ ?_
    · rintro i ys H' hi ⟨rfl, rfl⟩
      obtain ⟨r1, e1, h1⟩ := pr_at hxs (i := i) (by omega)
      obtain ⟨r2, e2, h2⟩ := pr_at hxs (i := i + 1) (by omega)
      walk_at "rd"
      refine rd_ixT e (atI_of (i := i) (by omega) e1) ?_
      walk_at "rd"
      refine rd_ixT e (atI_of (i := i + 1) (by omega) e2) ?_
      refine rd_ltT h1 h2 ⟨rfl, ?_⟩
      rw [List.range_succ, List.map_append, List.map_append]
      rfl
    · rintro ys H' ⟨rfl, rfl⟩ p hp
      walk_at "rd"
      refine rd_all upd_same ?_
      rw [← rising_range]
      exact q _ (Same.upd hp)
noncomputable def decP (d : PyData) : Int × Int := match d with | .tuple [.int a, .int b] => (a, b) | _ => (0, 0)
noncomputable def orderB (d : PyData) : Bool := match d with | .tuple [.int n, .tuple ds] => decide (1 ≤ n) && decide (n ≤ 8) && ds.all (fun d => pairB d n) && risingB (ds.map decP) | _ => false
theorem pairB_dec {d : PyData} {m : Int} (h : pairB d m = true) : d = prD (decP d) := by
  unfold pairB at h
  split at h
  · rename_i a b
    rw [Bool.and_eq_true, Bool.and_eq_true] at h
    obtain ⟨i, rfl, _⟩ := wholeB_int h.1.1
    obtain ⟨j, rfl, _⟩ := wholeB_int h.1.2
    rfl
  · cases h
theorem pairs_dec {m : Int} : ∀ {ds : List PyData}, ds.all (fun d => pairB d m) = true → ds = (ds.map decP).map prD
  | [], _ => rfl
  | d :: ds, h => by
    rw [List.all_cons, Bool.and_eq_true] at h
    rw [List.map_cons, List.map_cons, ← pairs_dec h.2, ← pairB_dec h.1]
theorem order_other {d : PyData} (h : ∀ n ds, d ≠ .tuple [.int n, .tuple ds]) : orderB d = false := by
  unfold orderB
  split
  · rename_i n ds
    exact absurd rfl (h n ds)
  · rfl
noncomputable def okOrd (d : PyData) : Prop := ∀ m ds, d = .tuple [m, .tuple ds] → ds.length ≤ 1000
noncomputable def sp_is_order : Sp := fun vs H Q _ => ∃ x d, vs = [x] ∧ Is H x d ∧ okOrd d ∧ ∀ H', Same H H' → Q (.bl (orderB d)) H'
theorem ok_is_order (T : Txt K mg t) : FnOk P w K mg base CX0 4 t.a_is_order t.d_is_order ["value"] sp_is_order := by
  refine T.F_is_order.ok sc_is_order (fun vs H Q E h => ?_) (fun cdv A outer s H vs Q E hr h => ?_)
  · obtain ⟨x, d, rfl, _⟩ := h
    rfl
  · obtain ⟨x, d, rfl, hx, hok, q⟩ := h
    refine ⟨_, (pss_cons (ps_if (PW.pt (pw_or (pt_not (pt_val (pe_callB c_isinst (by rfl) T.n_isinstance bt_isinstance (pa_cons (pv 0) (pa_cons (pe_bltn (v := .ty "tuple") rfl T.n_tuple bt_tuple rfl) pa_nil))))) (pw_or1 (pt_cmpR (op_neD hr.units) (pe_callB (k_len K) (by rfl) T.n_len bt_len (pa_cons (pv 0) pa_nil)) pe_int (nomark _))))) (pss_one (ps_ret pe_bl)) pss_nil)
      (pss_cons (ps_set (i := 1) sc_is_order.nd rfl (Or.inr rfl) (pe_ix (k_ix K) (pv 0) pe_int (fun _ _ => rfl)))
      (pss_cons (ps_set (i := 2) sc_is_order.nd rfl (Or.inl rfl) (pe_ix (k_ix K) (pv 0) pe_int (fun _ _ => rfl)))
      (pss_cons (ps_if (PW.pt (pw_or (pt_not (pt_val (pe_call (ok_is_whole T) (hr.mono (by decide)) rfl T.m_is_whole T.F_is_whole.kp T.b_is_whole .nil pass0 (pa_cons (pv 1) (pa_cons pe_int (pa_cons (pe_gint rfl T.c_MOST_THINGS) pa_nil)))))) (pw_or1 (pt_not (pt_val (pe_callB c_isinst (by rfl) T.n_isinstance bt_isinstance (pa_cons (pv 2) (pa_cons (pe_bltn (v := .ty "tuple") rfl T.n_tuple bt_tuple rfl) pa_nil)))))))) (pss_one (ps_ret pe_bl)) pss_nil)
      (pss_one (ps_ret (pe_and (pe_callB (k_all K) (by rfl) T.n_all bt_all (pa_cons (pe_lc rfl ⟨True.intro, True.intro, True.intro, (.inl rfl), True.intro⟩ (M := ["pair", "many"]) (.own (.free 1 rfl rfl .nil)) (gk_name rfl) rfl (by decide +kernel) (k_ptup K (pv 2)) (fun C fp s1 H1 => ⟨pg_name (i := 0) (show (["pair", "many"] : List Str).Nodup by decide +kernel) rfl (Or.inl rfl), pif_nil, (pe_call (ok_is_pair T) (hr.mono (by decide)) rfl T.m_is_pair T.F_is_pair.kp T.b_is_pair .nil pass0 (pa_cons (pv 0) (pa_cons (pv 1) pa_nil)))⟩)) pa_nil)) (pe_one (pe_call (ok_is_rising T) (hr.mono (by decide)) rfl T.m_is_rising T.F_is_rising.kp T.b_is_rising .nil pass0 (pa_cons (pv 2) pa_nil)))))))))), ?_⟩
    walk_at "rd"
    by_cases hd : ∃ ds, d = .tuple ds
    · obtain ⟨ds, rfl⟩ := hd
      cases hx with
      | @tup a xs _ e hxs =>
      walk_at "rd"
      have hl := hxs.length
      refine ifB (fun h => ?_) (fun h => ?_)
      · walk_at "rd"
        have q' := q H (Same.refl H)
        rw [order_other] at q'
        · exact q'
        · rintro n ds ⟨⟩
          simp at hl
          simp [hl] at h
      · walk_at "rd"
        match xs, ds, hxs, hl with
        | [x1, x2], [d1, d2], .cons i1 (.cons i2 .nil), _ =>
          walk_at "rd"
          refine ⟨_, _, _, _, rfl, i1, ?_⟩
          walk_at "rd"
          refine ifB (fun h1 => ?_) (fun h1 => ?_)
          · walk_at "rd"
            have h1' : wholeB d1 1 8 = false := by simpa using h1
            have q' := q H (Same.refl H)
            by_cases h0 : ∃ n ds, d1 = .int n ∧ d2 = .tuple ds
            · obtain ⟨n, ds, rfl, rfl⟩ := h0
              have : orderB (.tuple [.int n, .tuple ds]) = (decide (1 ≤ n) && decide (n ≤ 8) && ds.all (fun d => pairB d n) && risingB (ds.map decP)) := rfl
              rw [this, show (decide (1 ≤ n) && decide (n ≤ 8)) = false from h1'] at q'
              exact q'
            · rw [order_other (by rintro n ds ⟨⟩; exact h0 ⟨_, _, rfl, rfl⟩)] at q'
              exact q'
          · have h1' : wholeB d1 1 8 = true := by simpa using h1
            obtain ⟨n, rfl, hn1, hn8⟩ := wholeB_int h1'
            walk_at "rd"
            by_cases hd2 : ∃ ds, d2 = .tuple ds
            · obtain ⟨ds, rfl⟩ := hd2
              have hlen := hok _ _ rfl
              cases i1 with
              | int _ =>
              cases i2 with
              | @tup b ys _ eb hys =>
              have hlb := hys.length
              walk_at "rd"
              refine ⟨b, rfl, ⟨ys, SqT.of eb⟩, ?_⟩
              refine lp_tup (K := K) (xs := ys) (small_ln (by omega)) (fun i zs H' => H' = H ∧ zs = ((ds.take i).map fun d => pairB d n).map V.bl) ⟨rfl, rfl⟩ (by rintro i ys H' ⟨_, rfl⟩; simp; omega) (fun i zs H' _ h => by rw [h.1]; exact SqT.of eb) ?_ ?_
              · rintro i x zs H' hx ⟨rfl, rfl⟩
                obtain ⟨d, ed, id⟩ := hys.get' hx
                walk_at "rd"
                refine ⟨_, _, _, rfl, id, rfl, ?_⟩
                rw [List.take_add_one, ed, List.map_append, List.map_append]
                rfl
              · rintro zs H' ⟨rfl, rfl⟩ p hp
                walk_at "rd"
                refine rd_all upd_same ?_
                rw [hlb, List.take_length, List.all_map]
                walk_at "rd"
                have qe : orderB (.tuple [.int n, .tuple ds]) = (decide (1 ≤ n) && decide (n ≤ 8) && ds.all (fun d => pairB d n) && risingB (ds.map decP)) := rfl
                rw [qe, decide_eq_true hn1, decide_eq_true hn8] at q
                refine ifB (fun h3 => ?_) (fun h3 => ?_)
                · walk_at "rd"
                  have h3' : ds.all (fun d => pairB d n) = true := h3
                  have ed := pairs_dec h3'
                  have hy2 : Is (upd H' p (.lst (((ds.take ys.length).map fun d => pairB d n).map V.bl))) (.ref b) (.tuple ((ds.map decP).map prD)) := by
                    rw [← ed]
                    exact Is.same (Same.upd hp) (.tup eb hys)
                  rw [hlb, List.take_length] at hy2
                  refine ⟨_, _, rfl, hy2, by rw [List.length_map]; exact hlen, fun H2 s2 => ?_⟩
                  have q' := q H2 ((Same.upd hp).trans s2)
                  simpa [h3'] using q'
                · walk_at "rd"
                  have h3' : ds.all (fun d => pairB d n) = false := h3
                  have q' := q _ (Same.upd (o := .lst ((ds.map fun d => pairB d n).map V.bl)) hp)
                  simpa [h3'] using q'
            · have hd2' : ∀ ds, d2 ≠ .tuple ds := fun ds e => hd2 ⟨ds, e⟩
              rw [isTup_no hd2']
              walk_at "rd"
              have q' := q H (Same.refl H)
              rw [order_other (by rintro n ds ⟨⟩; exact hd2' _ rfl)] at q'
              exact q'
        | [], _, _, _ => simp at h
        | [_], _, _, _ => simp at h
        | _ :: _ :: _ :: _, _, _, _ => simp at h; omega
    · have hd' : ∀ ds, d ≠ .tuple ds := fun ds e => hd ⟨ds, e⟩
      rw [isTup_no hd']
      walk_at "rd"
      have q' := q H (Same.refl H)
      rw [order_other fun n ds => hd' _] at q'
      exact q'
end
end My

set_option Elab.async false
set_option linter.all false
set_option maxRecDepth 100000
set_option maxHeartbeats 4000000
namespace My
open PySem L2
section
variable {P : Program} {w : World} {K : PySem.W.Frag} {mg : Str → Option Value} {base : Heap} {t : Ad}
noncomputable def sp_need_order : Sp := fun vs H Q _ => ∃ x d, vs = [x] ∧ Is H x d ∧ okOrd d ∧ orderB d = true ∧ ∀ H', Same H H' → Q .non H'
theorem ok_need_order (T : Txt K mg t) : FnOk P w K mg base CX0 5 t.a_need_order t.d_need_order ["value"] sp_need_order := by
  refine T.F_need_order.ok sc_need_order (fun vs H Q E h => ?_) (fun cdv A outer s H vs Q E hr h => ?_)
  · obtain ⟨x, d, rfl, _⟩ := h
    rfl
  · obtain ⟨x, d, rfl, hx, hok, ho, q⟩ := h
    refine ⟨_, (pss_one (ps_if (pt_not (pt_val (pe_call (ok_is_order T) (hr.mono (by decide)) rfl T.m_is_order T.F_is_order.kp T.b_is_order .nil pass0 (pa_cons (pv 0) pa_nil)))) (pss_one ps_never) pss_nil)), ?_⟩
    walk_at "rd"
    refine ⟨_, _, rfl, hx, hok, fun H' s' => ?_⟩
    rw [ho]
    walk_at "rd"
    exact q H' s'
end
end My

set_option Elab.async false
set_option linter.all false
set_option maxRecDepth 100000
set_option maxHeartbeats 4000000
namespace My
open PySem L2
section
variable {P : Program} {w : World} {K : PySem.W.Frag} {mg : Str → Option Value} {base : Heap} {t : Ad}
/-! bars -/
theorem eqv_pr (p q : Int × Int) : PyData.eqv (prD p) (prD q) = decide (p = q) := by
  obtain ⟨a, b⟩ := p
  obtain ⟨c, d⟩ := q
  simp only [prD, PyData.eqv, PyData.eqvAll, Bool.and_true]
  by_cases h : a = c
  · by_cases h2 : b = d
    · subst h h2; simp
    · simp [h, h2]
  · simp [h]
theorem inD_pr (p : Int × Int) : ∀ ps : List (Int × Int), inD (prD p) (ps.map prD) = decide (p ∈ ps)
  | [] => by simp [inD]
  | q :: ps => by
    have ih := inD_pr p ps
    unfold inD at ih ⊢
    rw [List.map_cons, List.any_cons, ih, eqv_pr]
    by_cases h : q = p
    · subst h; simp
    · have h' : ¬ p = q := fun e => h e.symm
      simp [h, h']
theorem ok_pr (p : Int × Int) : okD (prD p) := ⟨rfl, show 1 ≤ 40 by decide⟩
theorem ok_prs : ∀ ps : List (Int × Int), okDs (ps.map prD)
  | [] => ⟨rfl, Nat.zero_le _⟩
  | p :: ps => by
    obtain ⟨a, b⟩ := ok_prs ps
    refine ⟨?_, ?_⟩
    · rw [List.map_cons, PyData.canLayAll0, a]; rfl
    · rw [List.map_cons, PyData.depthAll]
      exact Nat.max_le.mpr ⟨(ok_pr p).2, b⟩
noncomputable def has (ps : List (Int × Int)) (i j : Int) : Bool := decide ((i, j) ∈ ps)
/-- (i, j) in pairs -/
theorem rd_inP {H : Hp} {Q : VK} {p : Addr} {y : V} {i j : Int} {ps : List (Int × Int)} (e : H p = some (.tup [.int i, .int j])) (hy : Is H y (.tuple (ps.map prD))) (h : Q (.bl (has ps i j)) H) : rInD false (.ref p) y H Q := by
  refine rd_inD (d := prD (i, j)) (.tup e (.cons (.int i) (.cons (.int j) .nil))) hy (ok_pr _) (ok_prs _) ?_
  rw [inD_pr]
  exact h
theorem rd_ninP {H : Hp} {Q : VK} {p : Addr} {y : V} {i j : Int} {ps : List (Int × Int)} (e : H p = some (.tup [.int i, .int j])) (hy : Is H y (.tuple (ps.map prD))) (h : Q (.bl (!has ps i j)) H) : rInD true (.ref p) y H Q := by
  refine rd_inD (d := prD (i, j)) (.tup e (.cons (.int i) (.cons (.int j) .nil))) hy (ok_pr _) (ok_prs _) ?_
  rw [inD_pr]
  exact h
theorem two_ln {i j : Int} : [V.int i, V.int j].length ≤ sizeLine := by
  show 2 ≤ sizeLine
  decide
/-! an order -/
noncomputable def ordD (n : Nat) (ps : List (Int × Int)) : PyData := .tuple [.int n, .tuple (ps.map prD)]
structure Ord (n : Nat) (ps : List (Int × Int)) : Prop where
  lo : 1 ≤ n
  hi : n ≤ 8
  ix : ∀ p ∈ ps, 0 ≤ p.1 ∧ p.1 < n ∧ 0 ≤ p.2 ∧ p.2 < n ∧ p.1 ≠ p.2
  up : risingB ps = true
  sz : ps.length ≤ 1000
theorem decP_pr (p : Int × Int) : decP (prD p) = p := rfl
theorem Ord.okd {n : Nat} {ps : List (Int × Int)} (h : Ord n ps) : okOrd (ordD n ps) := by
  rintro m ds e
  unfold ordD at e
  injection e with e
  injection e with _ e
  injection e with e _
  injection e with e
  rw [← e, List.length_map]
  exact h.sz
theorem Ord.yes {n : Nat} {ps : List (Int × Int)} (h : Ord n ps) : orderB (ordD n ps) = true := by
  have e : orderB (ordD n ps) = (decide (1 ≤ (n : Int)) && decide ((n : Int) ≤ 8) && (ps.map prD).all (fun d => pairB d n) && risingB ((ps.map prD).map decP)) := rfl
  have e2 : (ps.map prD).map decP = ps := by
    rw [List.map_map]
    exact (List.map_congr_left fun p _ => decP_pr p).trans (List.map_id ps)
  have e3 : (ps.map prD).all (fun d => pairB d n) = true := by
    rw [List.all_map, List.all_eq_true]
    intro p hp
    obtain ⟨a, b, c, d, f⟩ := h.ix p hp
    show (wholeB (.int p.1) 0 (n - 1) && wholeB (.int p.2) 0 (n - 1) && !PyData.eqv (.int p.1) (.int p.2)) = true
    have g1 : wholeB (.int p.1) 0 (n - 1) = true := by
      show (decide (0 ≤ p.1) && decide (p.1 ≤ (n : Int) - 1)) = true
      simp; omega
    have g2 : wholeB (.int p.2) 0 (n - 1) = true := by
      show (decide (0 ≤ p.2) && decide (p.2 ≤ (n : Int) - 1)) = true
      simp; omega
    have g3 : PyData.eqv (.int p.1) (.int p.2) = false := by
      show (p.1 == p.2) = false
      simpa using f
    rw [g1, g2, g3]; rfl
  rw [e, e2, e3, h.up, decide_eq_true (by have := h.lo; omega), decide_eq_true (by have := h.hi; omega)]
  rfl
theorem is_ord {H : Hp} {x : V} {n : Nat} {ps : List (Int × Int)} (h : Is H x (ordD n ps)) : ∃ a b xs, x = .ref a ∧ H a = some (.tup [.int n, .ref b]) ∧ H b = some (.tup xs) ∧ IsAll H xs (ps.map prD) := by
  unfold ordD at h
  cases h with
  | @tup a xs _ e hxs =>
    obtain ⟨b, ys, rfl, eb, hb⟩ := two_io hxs
    exact ⟨a, _, _, rfl, e, eb, hb⟩
end
end My

set_option Elab.async false
set_option linter.all false
set_option maxRecDepth 100000
set_option maxHeartbeats 4000000
namespace My
open PySem L2
section
variable {P : Program} {w : World} {K : PySem.W.Frag} {mg : Str → Option Value} {base : Heap} {t : Ad}
noncomputable def sp_is_step : Sp := fun vs H Q _ => ∃ x d, vs = [x] ∧ Is H x d ∧ Q (.bl (wholeB d 1 999)) H
theorem ok_is_step (T : Txt K mg t) : FnOk P w K mg base CX0 2 t.a_is_step t.d_is_step ["value"] sp_is_step := by
  refine T.F_is_step.ok sc_is_step (fun vs H Q E h => ?_) (fun cdv A outer s H vs Q E hr h => ?_)
  · obtain ⟨x, d, rfl, _⟩ := h
    rfl
  · obtain ⟨x, d, rfl, hx, q⟩ := h
    refine ⟨_, (pss_one (ps_ret (pe_call (ok_is_whole T) (hr.mono (by decide)) rfl T.m_is_whole T.F_is_whole.kp T.b_is_whole .nil pass0 (pa_cons (pv 0) (pa_cons pe_int (pa_cons (pe_gint rfl T.c_MOST_STEP) pa_nil)))))), ?_⟩
    walk_at "rd"
    exact ⟨_, _, _, _, rfl, hx, q⟩
end
end My

set_option Elab.async false
set_option linter.all false
set_option maxRecDepth 100000
set_option maxHeartbeats 4000000
namespace My
open PySem L2
section
variable {P : Program} {w : World} {K : PySem.W.Frag} {mg : Str → Option Value} {base : Heap} {t : Ad}
noncomputable def sp_need_step : Sp := fun vs H Q _ => ∃ x d, vs = [x] ∧ Is H x d ∧ wholeB d 1 999 = true ∧ Q .non H
theorem ok_need_step (T : Txt K mg t) : FnOk P w K mg base CX0 3 t.a_need_step t.d_need_step ["value"] sp_need_step := by
  refine T.F_need_step.ok sc_need_step (fun vs H Q E h => ?_) (fun cdv A outer s H vs Q E hr h => ?_)
  · obtain ⟨x, d, rfl, _⟩ := h
    rfl
  · obtain ⟨x, d, rfl, hx, ho, q⟩ := h
    refine ⟨_, (pss_one (ps_if (pt_not (pt_val (pe_call (ok_is_step T) (hr.mono (by decide)) rfl T.m_is_step T.F_is_step.kp T.b_is_step .nil pass0 (pa_cons (pv 0) pa_nil)))) (pss_one ps_never) pss_nil)), ?_⟩
    walk_at "rd"
    refine ⟨_, _, rfl, hx, ?_⟩
    rw [ho]
    walk_at "rd"
    exact q
end
end My


set_option Elab.async false
set_option linter.all false
set_option maxRecDepth 100000
set_option maxHeartbeats 4000000
namespace My
open PySem L2
section
variable {P : Program} {w : World} {K : PySem.W.Frag} {mg : Str → Option Value} {base : Heap} {t : Ad}
/-! demands -/
noncomputable def dem (ps : List (Int × Int)) (st i j : Int) : Option Int := if has ps i j = true then some st else if has ps j i = true then none else some (1 - st)
noncomputable def oV : Option Int → V
  | some k => .int k
  | none => .non
noncomputable def sp_demand : Sp := fun vs H Q _ => ∃ x ps st i j, vs = [x, .int st, .int i, .int j] ∧ Is H x (.tuple (ps.map prD)) ∧ ∀ H', Same H H' → Q (oV (dem ps st i j)) H'
theorem ok_demand (T : Txt K mg t) : FnOk P w K mg base CX0 1 t.a_demand t.d_demand ["pairs", "step", "one", "other"] sp_demand := by
  refine T.F_demand.ok sc_demand (fun vs H Q E h => ?_) (fun cdv A outer s H vs Q E hr h => ?_)
  · obtain ⟨x, ps, st, i, j, rfl, _⟩ := h
    rfl
  · obtain ⟨x, ps, st, i, j, rfl, hx, q⟩ := h
    refine ⟨_, (pss_cons (ps_if (pt_cmpR (op_inD hr.units) (pe_tup (pa_cons (pv 2) (pa_cons (pv 3) pa_nil))) (pv 0) (by rfl)) (pss_one (ps_ret (pv 1))) pss_nil)
      (pss_cons (ps_if (pt_cmpR (op_inD hr.units) (pe_tup (pa_cons (pv 3) (pa_cons (pv 2) pa_nil))) (pv 0) (by rfl)) (pss_one (ps_ret pe_non)) pss_nil)
      (pss_one (ps_ret (pe_op op_sub pe_int (pv 1)))))), ?_⟩
    unfold dem at q
    walk_at "rd"
    refine ⟨two_ln, fun p1 hp1 => ?_⟩
    have s1 := Same.upd (o := .tup [.int i, .int j]) hp1
    walk_at "rd"
    refine rd_inP upd_same (hx.same s1) ?_
    walk_at "rd"
    refine ifB (fun h1 => ?_) (fun h1 => ?_)
    · walk_at "rd"
      have q' := q _ s1
      rw [if_pos h1] at q'
      exact q'
    · rw [h1] at q
      walk_at "rd"
      refine ⟨two_ln, fun p2 hp2 => ?_⟩
      walk_at "rd"
      refine rd_inP upd_same (hx.same (s1.trans (Same.upd hp2))) ?_
      walk_at "rd"
      refine ifB (fun h2 => ?_) (fun h2 => ?_)
      · rw [h2] at q
        walk_at "rd"
        exact q _ (s1.trans (Same.upd hp2))
      · rw [h2] at q
        walk_at "rd"
        exact q _ (s1.trans (Same.upd hp2))
noncomputable abbrev Dm := Nat × Nat × Int
noncomputable def trD (d : Dm) : PyData := .tuple [.int d.1, .int d.2.1, .int d.2.2]
noncomputable def dmI (ps : List (Int × Int)) (st : Int) (i j : Nat) : List Dm := if i = j then [] else match dem ps st i j with | some k => [(i, j, k)] | none => []
noncomputable def dmRow (ps : List (Int × Int)) (st : Int) (i m : Nat) : List Dm := (List.range m).flatMap (dmI ps st i)
noncomputable def dmAll (n : Nat) (ps : List (Int × Int)) (st : Int) (m : Nat) : List Dm := (List.range m).flatMap fun i => dmRow ps st i n
theorem dmI_len (ps : List (Int × Int)) (st : Int) (i j : Nat) : (dmI ps st i j).length ≤ 1 := by
  unfold dmI
  split
  · exact Nat.zero_le _
  · split
    · exact Nat.le_refl _
    · exact Nat.zero_le _
theorem dmRow_succ (ps : List (Int × Int)) (st : Int) (i m : Nat) : dmRow ps st i (m + 1) = dmRow ps st i m ++ dmI ps st i m := by
  unfold dmRow
  rw [List.range_succ, List.flatMap_append]
  simp
theorem dmAll_succ (n : Nat) (ps : List (Int × Int)) (st : Int) (m : Nat) : dmAll n ps st (m + 1) = dmAll n ps st m ++ dmRow ps st m n := by
  unfold dmAll
  rw [List.range_succ, List.flatMap_append]
  simp
theorem dmRow_len (ps : List (Int × Int)) (st : Int) (i : Nat) : ∀ m, (dmRow ps st i m).length ≤ m
  | 0 => Nat.le_refl _
  | m + 1 => by
    rw [dmRow_succ, List.length_append]
    have := dmRow_len ps st i m
    have := dmI_len ps st i m
    omega
theorem dmAll_len (n : Nat) (ps : List (Int × Int)) (st : Int) : ∀ m, (dmAll n ps st m).length ≤ m * n
  | 0 => Nat.zero_le _
  | m + 1 => by
    rw [dmAll_succ, List.length_append, Nat.succ_mul]
    have := dmAll_len n ps st m
    have := dmRow_len ps st m n
    omega
theorem noLs_tr : ∀ ds : List Dm, noLs (ds.map trD) = true
  | [] => rfl
  | d :: ds => by
    rw [List.map_cons, noLs, noLs_tr ds]
    rfl
/-- a list that grows -/
theorem grow {H : Hp} {l p : Addr} {xs ys : List V} {d : PyData} {ds : List PyData} (hn : noLs ds = true) (hl : H l = some (.lst xs)) (hp : H p = none) (h : IsAll H xs ds) (hd : Is (upd (upd H p (.tup ys)) l (.lst (xs ++ [.ref p]))) (.ref p) d) :
    IsAll (upd (upd H p (.tup ys)) l (.lst (xs ++ [.ref p]))) (xs ++ [.ref p]) (ds ++ [d]) := by
  refine IsAll.snoc (h.tmono (fun a zs e => ?_) hn) hd
  have h1 : a ≠ l := ne_of e hl (by intro z; cases z)
  have h2 : a ≠ p := ne_of_none e hp
  rw [upd_ne h1, upd_ne h2]
  exact e
noncomputable def sp_all_demands : Sp := fun vs H Q _ => ∃ x n ps st, vs = [x, .int st] ∧ Is H x (ordD n ps) ∧ n ≤ 8 ∧ ∀ l xs H', Same H H' → H l = none → H' l = some (.lst xs) → IsAll H' xs ((dmAll n ps st n).map trD) → Q (.ref l) H'
theorem ok_all_demands (T : Txt K mg t) : FnOk P w K mg base CX0 2 t.a_all_demands t.d_all_demands ["order", "step"] sp_all_demands := by
  refine T.F_all_demands.ok sc_all_demands (fun vs H Q E h => ?_) (fun cdv A outer s H vs Q E hr h => ?_)
  · obtain ⟨x, n, ps, st, rfl, _⟩ := h
    rfl
  · obtain ⟨x, n, ps, st, rfl, hx, hn, q⟩ := h
    refine ⟨_, (pss_cons (ps_set (i := 2) sc_all_demands.nd rfl (Or.inl rfl) (pe_lst pa_nil))
      (pss_cons (ps_for PassesOwn.never rfl (pi_range1 rfl T.n_range (pa_cons (pe_ix (k_ix K) (pv 0) pe_int (fun _ _ => rfl)) pa_nil)) (pg_name (i := 3) sc_all_demands.nd rfl (Or.inl rfl)) (pss_one (ps_for PassesOwn.never rfl (pi_range1 rfl T.n_range (pa_cons (pe_ix (k_ix K) (pv 0) pe_int (fun _ _ => rfl)) pa_nil)) (pg_name (i := 4) sc_all_demands.nd rfl (Or.inl rfl)) (pss_cons (ps_set (i := 5) sc_all_demands.nd rfl (Or.inl rfl) (pe_call (ok_demand T) (hr.mono (by decide)) rfl T.m_demand T.F_demand.kp T.b_demand .nil pass0 (pa_cons (pe_ix (k_ix K) (pv 0) pe_int (fun _ _ => rfl)) (pa_cons (pv 1) (pa_cons (pv 3) (pa_cons (pv 4) pa_nil))))))
      (pss_one (ps_if (PW.pt (pw_and (pt_cmpR (op_neD hr.units) (pv 3) (pv 4) (nomark _)) (pw_and1 (pt_cmpR o_notN (pv 5) pe_non (nomark _))))) (pss_one (ps_expr (k_bm K PySem.F.plainAttrs_list PySem.F.slot_list_append PySem.F.type_list_append mt_append (pv 2) (pa_cons (pe_tup (pa_cons (pv 3) (pa_cons (pv 4) (pa_cons (pv 5) pa_nil)))) pa_nil)))) pss_nil))))))
      (pss_one (ps_ret (pv 2))))), ?_⟩
    obtain ⟨a, b, xs, rfl, ea, eb, hxs⟩ := is_ord hx
    walk_at "rd"
    refine ⟨Nat.zero_le _, fun l hl => ?_⟩
    have s0 := Same.upd (o := .lst []) hl
    have ea0 := s0 _ _ ea
    walk_at "rd"
    refine ⟨_, rfl, by omega, by omega, ?_⟩
    rw [Int.toNat_natCast]
    refine fp_range (fun i σ H' => (∃ va vb vc, σ = [some (.ref a), some (.int st), some (.ref l), va, vb, vc]) ∧ Same H H' ∧ ∃ zs, H' l = some (.lst zs) ∧ IsAll H' zs ((dmAll n ps st i).map trD)) ⟨⟨_, _, _, rfl⟩, s0, [], upd_same, .nil⟩ ?_ ?_
    · rintro i σ H1 hi ⟨⟨va, vb, vc, rfl⟩, s1, zs, hz, iz⟩
      have ea1 := s1 _ _ ea
      walk_at "rd"
      refine ⟨_, rfl, by omega, by omega, ?_⟩
      rw [Int.toNat_natCast]
      refine fp_range (fun j σ H' => (∃ vb vc, σ = [some (.ref a), some (.int st), some (.ref l), some (.int (0 + i)), vb, vc]) ∧ Same H H' ∧ ∃ zs, H' l = some (.lst zs) ∧ IsAll H' zs ((dmAll n ps st i ++ dmRow ps st i j).map trD)) ⟨⟨_, _, rfl⟩, s1, zs, hz, by simpa [dmRow] using iz⟩ ?_ ?_
      · rintro j σ H2 hj ⟨⟨vb, vc, rfl⟩, s2, zs2, hz2, iz2⟩
        have ea2 := s2 _ _ ea
        have eb2 := s2 _ _ eb
        walk_at "rd"
        refine ⟨_, ps, _, _, _, rfl, Is.same s2 (.tup eb hxs), fun H3 s3 => ?_⟩
        have hz3 := s3 _ _ hz2
        have iz3 := iz2.same s3
        rw [Int.zero_add, Int.zero_add]
        have dE : dmAll n ps st i ++ dmRow ps st i (j + 1) = dmAll n ps st i ++ dmRow ps st i j ++ dmI ps st i j := by rw [dmRow_succ, List.append_assoc]
        rw [dE]
        walk_at "rd"
        refine ifB (fun h1 => ?_) (fun h1 => ?_)
        · have hij : i ≠ j := by intro z; subst z; simp at h1
          walk_at "rd"
          cases hd : dem ps st i j with
          | none =>
            rw [show oV none = V.non from rfl]
            walk_at "rd"
            refine ⟨⟨_, _, rfl⟩, s2.trans s3, zs2, hz3, ?_⟩
            simpa [dmI, hij, hd] using iz3
          | some k =>
            rw [show oV (some k) = V.int k from rfl]
            walk_at "rd"
            refine ⟨tyV_lst hz3, ?_⟩
            walk_at "rd"
            refine ⟨by show 3 ≤ sizeLine; decide, fun p hp => ?_⟩
            have hlp : l ≠ p := ne_of_none hz3 hp
            have hlen : zs2.length ≤ 8 * 8 + 8 := by
              rw [iz2.length, List.length_map, List.length_append]
              have h1 := dmAll_len n ps st i
              have h2 := dmRow_len ps st i j
              have h3 : i * n ≤ 8 * 8 := Nat.mul_le_mul (by omega) hn
              omega
            walk_at "rd"
            refine rd_append (xs := zs2) ?_ (small1000 (by omega)) ?_
            · rw [upd_ne hlp]
              exact hz3
            walk_at "rd"
            refine ⟨⟨_, _, rfl⟩, fun c u e => ?_, _, upd_same, ?_⟩
            · have e3 := (s2.trans s3) c u e
              rw [upd_ne (ne_of_none e hl), upd_ne (ne_of_none e3 hp)]
              exact e3
            · have e1 : dmI ps st i j = [(i, j, k)] := by simp [dmI, hij, hd]
              rw [e1, List.map_append]
              refine grow (noLs_tr _) hz3 hp iz3 (.tup ?_ (.cons (.int _) (.cons (.int _) (.cons (.int _) .nil))))
              rw [upd_ne (Ne.symm hlp), upd_same]
        · have hij : i = j := by
            have h1' : ((i : Int) == (j : Int)) = true := by simpa using h1
            have := eq_of_beq h1'
            omega
          walk_at "rd"
          refine ⟨⟨_, _, rfl⟩, s2.trans s3, zs2, hz3, ?_⟩
          simpa [dmI, hij] using iz3
      · rintro σ H2 ⟨⟨vb, vc, rfl⟩, s2, zs2, hz2, iz2⟩
        exact ⟨⟨_, _, _, rfl⟩, s2, zs2, hz2, by rw [dmAll_succ]; exact iz2⟩
    · rintro σ H1 ⟨⟨va, vb, vc, rfl⟩, s1, zs, hz, iz⟩
      walk_at "rd"
      exact q l zs H1 s1 hl hz iz
/-! raising -/
noncomputable abbrev Rs := List Int × List V × V
noncomputable def rel1 (s : Rs) (d : Dm) : Rs := if s.1.getD d.1 0 + d.2.2 > s.1.getD d.2.1 0 then (s.1.set d.2.1 (s.1.getD d.1 0 + d.2.2), s.2.1.set d.2.1 (.int d.1), .int d.2.1) else s
noncomputable def run1 (ds : List Dm) (vals : List Int) (orgs : List V) : Rs := ds.foldl rel1 (vals, orgs, .non)
theorem rel1_len (s : Rs) (d : Dm) : (rel1 s d).1.length = s.1.length ∧ (rel1 s d).2.1.length = s.2.1.length := by
  unfold rel1
  split
  · simp
  · exact ⟨rfl, rfl⟩
theorem fold_len : ∀ (ds : List Dm) (s : Rs), (ds.foldl rel1 s).1.length = s.1.length ∧ (ds.foldl rel1 s).2.1.length = s.2.1.length
  | [], s => ⟨rfl, rfl⟩
  | d :: ds, s => by
    rw [List.foldl_cons]
    have h := fold_len ds (rel1 s d)
    have g := rel1_len s d
    exact ⟨h.1.trans g.1, h.2.trans g.2⟩
noncomputable def SameB (v o : Addr) (H H' : Hp) : Prop := ∀ b u, H b = some u → b ≠ v → b ≠ o → H' b = some u
structure Vals2 (H : Hp) (v o : Addr) (vals : List Int) (orgs : List V) (n : Nat) : Prop where
  hv : H v = some (.lst (vals.map V.int))
  ho : H o = some (.lst orgs)
  lv : vals.length = n
  lo : orgs.length = n
noncomputable def dmOk (n : Nat) (ds : List Dm) : Prop := ∀ d ∈ ds, d.1 < n ∧ d.2.1 < n
theorem tr_at {H : Hp} {xs : List V} {ds : List Dm} {i : Nat} {x : V} (h : IsAll H xs (ds.map trD)) (e : xs[i]? = some x) : ∃ d r, ds[i]? = some d ∧ x = .ref r ∧ H r = some (.tup [.int d.1, .int d.2.1, .int d.2.2]) := by
  obtain ⟨d, ed, id⟩ := h.get' e
  rw [List.getElem?_map] at ed
  cases hd : ds[i]? with
  | none => rw [hd] at ed; cases ed
  | some d0 =>
    rw [hd] at ed
    cases ed
    unfold trD at id
    cases id with
    | @tup r ys _ er hys =>
      match ys, hys with
      | _, .cons (.int _) (.cons (.int _) (.cons (.int _) .nil)) => exact ⟨d0, r, rfl, rfl, er⟩
theorem SameB.refl {v o : Addr} (H : Hp) : SameB v o H H := fun _ _ h _ _ => h
theorem SameB.trans {v o : Addr} {H H1 H2 : Hp} (a : SameB v o H H1) (b : SameB v o H1 H2) : SameB v o H H2 := fun c u h h1 h2 => b c u (a c u h h1 h2) h1 h2
noncomputable def sp_raise_once : Sp := fun vs H Q _ => ∃ l v o ds vals orgs n xs, vs = [.ref l, .ref v, .ref o] ∧ H l = some (.lst xs) ∧ IsAll H xs (ds.map trD) ∧ Vals2 H v o vals orgs n ∧ l ≠ v ∧ l ≠ o ∧ v ≠ o ∧ dmOk n ds ∧
  ∀ H', SameB v o H H' → Vals2 H' v o (run1 ds vals orgs).1 (run1 ds vals orgs).2.1 n → Q (run1 ds vals orgs).2.2 H'
theorem getD_map {vals : List Int} {i : Nat} (hi : i < vals.length) : (vals.map V.int)[i]? = some (.int (vals.getD i 0)) := by
  rw [List.getElem?_map]
  simp [hi]
theorem set_map (vals : List Int) (i : Nat) (k : Int) : (vals.map V.int).set i (.int k) = (vals.set i k).map V.int := by
  rw [List.map_set]
theorem ok_raise_once (T : Txt K mg t) : FnOk P w K mg base CX0 1 t.a_raise_once t.d_raise_once ["demands", "values", "origins"] sp_raise_once := by
  refine T.F_raise_once.ok sc_raise_once (fun vs H Q E h => ?_) (fun cdv A outer s H vs Q E hr h => ?_)
  · obtain ⟨l, v, o, ds, vals, orgs, n, xs, rfl, _⟩ := h
    rfl
  · obtain ⟨l, v, o, ds, vals, orgs, n, xs, rfl, hl, hxs, V0, nlv, nlo, nvo, hds, q⟩ := h
    refine ⟨_, (pss_cons (ps_set (i := 3) sc_raise_once.nd rfl (Or.inl rfl) pe_non)
      (pss_cons (ps_for PassesOwn.never rfl (k_plst K (pv 0)) (k_gtup K rfl (pgs_cons (pg_name (i := 4) sc_raise_once.nd rfl (Or.inl rfl)) (pgs_cons (pg_name (i := 5) sc_raise_once.nd rfl (Or.inl rfl)) (pgs_cons (pg_name (i := 6) sc_raise_once.nd rfl (Or.inl rfl)) pgs_nil)))) (pss_one (ps_if (pt_cmpR (op_gt) (pe_op op_add (pe_ix (k_ix K) (pv 1) (pv 4) (fun _ _ => rfl)) (pv 6)) (pe_ix (k_ix K) (pv 1) (pv 5) (fun _ _ => rfl)) (nomark _)) (pss_cons (ps_asg (pe_op op_add (pe_ix (k_ix K) (pv 1) (pv 4) (fun _ _ => rfl)) (pv 6)) (pg_sub (pv 1) (pv 5) set_list (fun _ => rfl)))
      (pss_cons (ps_asg (pv 4) (pg_sub (pv 2) (pv 5) set_list (fun _ => rfl)))
      (pss_one (ps_set (i := 3) sc_raise_once.nd rfl (Or.inl rfl) (pv 5))))) pss_nil)))
      (pss_one (ps_ret (pv 3))))), ?_⟩
    have hlen : xs.length = ds.length := by rw [hxs.length, List.length_map]
    walk_at "rd"
    refine ⟨l, rfl, ⟨xs, SqL.of hl⟩, ?_⟩
    refine fp_list (K := K) (xs := xs) (fun i σ H' => (∃ va vb vc, σ = [some (.ref l), some (.ref v), some (.ref o), some ((ds.take i).foldl rel1 (vals, orgs, .non)).2.2, va, vb, vc]) ∧ SameB v o H H' ∧ Vals2 H' v o ((ds.take i).foldl rel1 (vals, orgs, .non)).1 ((ds.take i).foldl rel1 (vals, orgs, .non)).2.1 n)
      ⟨⟨_, _, _, rfl⟩, SameB.refl H, V0⟩ (fun i σ H' _ h => SqL.of (h.2.1 _ _ hl nlv nlo)) ?_ ?_
    · rintro i x σ H1 hx ⟨⟨va, vb, vc, rfl⟩, s1, V1⟩
      obtain ⟨d, r, ed, rfl, er0⟩ := tr_at hxs hx
      have er : H1 r = some (.tup [.int d.1, .int d.2.1, .int d.2.2]) := s1 r _ er0 (ne_of er0 V0.hv (by intro z; cases z)) (ne_of er0 V0.ho (by intro z; cases z))
      obtain ⟨hd1, hd2⟩ := hds d (List.mem_of_getElem? ed)
      have e1 : (ds.take (i + 1)).foldl rel1 (vals, orgs, V.non) = rel1 ((ds.take i).foldl rel1 (vals, orgs, V.non)) d := by
        rw [List.take_add_one, ed, List.foldl_append]
        rfl
      rw [e1]
      generalize hS : (ds.take i).foldl rel1 (vals, orgs, V.non) = S at V1 ⊢
      obtain ⟨hv1, ho1, lv1, lo1⟩ := id V1
      refine rd_gtup er rfl ?_
      walk_at "rd"
      refine rd_ixL hv1 (atI_of rfl (getD_map (by rw [lv1]; exact hd1))) ?_
      walk_at "rd"
      refine rd_ixL hv1 (atI_of rfl (getD_map (by rw [lv1]; exact hd2))) ?_
      walk_at "rd"
      unfold rel1
      refine ifB (fun h1 => ?_) (fun h1 => ?_)
      · have h1' := of_decide_eq_true h1
        rw [if_pos h1']
        walk_at "rd"
        refine rd_ixL hv1 (atI_of rfl (getD_map (by rw [lv1]; exact hd1))) ?_
        walk_at "rd"
        refine rd_setL hv1 rfl (by rw [List.length_map, lv1]; exact hd2) ?_
        walk_at "rd"
        refine rd_setL (xs := S.2.1) (by rw [upd_ne (Ne.symm nvo)]; exact ho1) rfl (by rw [lo1]; exact hd2) ?_
        walk_at "rd"
        refine ⟨⟨_, _, _, rfl⟩, fun b u e n1 n2 => ?_, ?_, upd_same, by rw [List.length_set]; exact lv1, by rw [List.length_set]; exact lo1⟩
        · rw [upd_ne n2, upd_ne n1]
          exact s1 b u e n1 n2
        · rw [upd_ne nvo, upd_same, set_map]
      · have h1' := of_decide_eq_false h1
        rw [if_neg h1']
        walk_at "rd"
        exact ⟨⟨_, _, _, rfl⟩, s1, V1⟩
    · rintro σ H1 ⟨⟨va, vb, vc, rfl⟩, s1, V1⟩
      rw [hlen, List.take_length] at V1 ⊢
      walk_at "rd"
      exact q H1 s1 V1
end
end My

set_option Elab.async false
set_option linter.all false
set_option maxRecDepth 100000
set_option maxHeartbeats 4000000
namespace My
open PySem L2
section
variable {P : Program} {w : World} {K : PySem.W.Frag} {mg : Str → Option Value} {base : Heap} {t : Ad}
theorem run1_len (ds : List Dm) (vals : List Int) (orgs : List V) : (run1 ds vals orgs).1.length = vals.length ∧ (run1 ds vals orgs).2.1.length = orgs.length := fold_len ds _
/-- k more turns, r: what the last one told -/
noncomputable def rounds (ds : List Dm) : Nat → List Int → List V → V → Rs
  | 0, vals, orgs, r => (vals, orgs, r)
  | k + 1, vals, orgs, _ => if (run1 ds vals orgs).2.2 = .non then ((run1 ds vals orgs).1, (run1 ds vals orgs).2.1, .non) else rounds ds k (run1 ds vals orgs).1 (run1 ds vals orgs).2.1 (run1 ds vals orgs).2.2
theorem rel1_r (s : Rs) (d : Dm) (h : s.2.2 = .non ∨ ∃ k, s.2.2 = .int k) : (rel1 s d).2.2 = .non ∨ ∃ k, (rel1 s d).2.2 = .int k := by
  unfold rel1
  split
  · exact .inr ⟨_, rfl⟩
  · exact h
theorem fold_r : ∀ (ds : List Dm) (s : Rs), (s.2.2 = .non ∨ ∃ k, s.2.2 = .int k) → ((ds.foldl rel1 s).2.2 = .non ∨ ∃ k, (ds.foldl rel1 s).2.2 = .int k)
  | [], s, h => h
  | d :: ds, s, h => by
    rw [List.foldl_cons]
    exact fold_r ds _ (rel1_r s d h)
theorem run1_r (ds : List Dm) (vals : List Int) (orgs : List V) : (run1 ds vals orgs).2.2 = .non ∨ ∃ k, (run1 ds vals orgs).2.2 = .int k := fold_r ds _ (.inl rfl)
noncomputable def sp_raise_all : Sp := fun vs H Q _ => ∃ l v o ds vals orgs n xs, vs = [.ref l, .ref v, .ref o] ∧ n ≤ 8 ∧ H l = some (.lst xs) ∧ IsAll H xs (ds.map trD) ∧ Vals2 H v o vals orgs n ∧ l ≠ v ∧ l ≠ o ∧ v ≠ o ∧ dmOk n ds ∧
  ∀ H', SameB v o H H' → Vals2 H' v o (rounds ds n vals orgs .non).1 (rounds ds n vals orgs .non).2.1 n → Q (rounds ds n vals orgs .non).2.2 H'
theorem ok_raise_all (T : Txt K mg t) : FnOk P w K mg base CX0 2 t.a_raise_all t.d_raise_all ["demands", "values", "origins"] sp_raise_all := by
  refine T.F_raise_all.ok sc_raise_all (fun vs H Q E h => ?_) (fun cdv A outer s H vs Q E hr h => ?_)
  · obtain ⟨l, v, o, ds, vals, orgs, n, xs, rfl, _⟩ := h
    rfl
  · obtain ⟨l, v, o, ds, vals, orgs, n, xs, rfl, hn, hl, hxs, V0, nlv, nlo, nvo, hds, q⟩ := h
    refine ⟨_, (pss_cons (ps_set (i := 3) sc_raise_all.nd rfl (Or.inl rfl) pe_non)
      (pss_cons (ps_for PassesOwn.never rfl (pi_range1 rfl T.n_range (pa_cons (pe_callB (k_len K) (by rfl) T.n_len bt_len (pa_cons (pv 1) pa_nil)) pa_nil)) (pg_name (i := 4) sc_raise_all.nd rfl (Or.inl rfl)) (pss_cons (ps_set (i := 3) sc_raise_all.nd rfl (Or.inl rfl) (pe_call (ok_raise_once T) (hr.mono (by decide)) rfl T.m_raise_once T.F_raise_once.kp T.b_raise_once .nil pass0 (pa_cons (pv 0) (pa_cons (pv 1) (pa_cons (pv 2) pa_nil)))))
      (pss_one (ps_if (pt_cmpR o_isN (pv 3) pe_non (nomark _)) (pss_one (ps_ret pe_non)) pss_nil))))
      (pss_one (ps_ret (pv 3))))), ?_⟩
    have hv0 := V0.hv
    have hlv : (vals.map V.int).length = n := by rw [List.length_map]; exact V0.lv
    walk_at "rd"
    refine ⟨_, rfl, by omega, by omega, ?_⟩
    rw [hlv, Int.toNat_natCast]
    refine fp_range (fun i σ H' => i ≤ n ∧ SameB v o H H' ∧ ∃ vals' orgs' r va, σ = [some (.ref l), some (.ref v), some (.ref o), some r, va] ∧ Vals2 H' v o vals' orgs' n ∧ rounds ds (n - i) vals' orgs' r = rounds ds n vals orgs .non)
      ⟨Nat.zero_le _, SameB.refl H, vals, orgs, .non, _, rfl, V0, rfl⟩ ?_ ?_
    · rintro i σ H1 hi ⟨_, s1, vals', orgs', r, va, rfl, V1, hR⟩
      walk_at "rd"
      refine ⟨l, v, o, ds, vals', orgs', n, xs, rfl, s1 _ _ hl nlv nlo, ?_, V1, nlv, nlo, nvo, hds, fun H2 s2 V2 => ?_⟩
      · refine hxs.tmono (fun a zs e => s1 a _ e ?_ ?_) (noLs_tr _)
        · exact ne_of e V0.hv (by intro z; cases z)
        · exact ne_of e V0.ho (by intro z; cases z)
      have ek : n - i = (n - (i + 1)) + 1 := by omega
      rw [ek, rounds] at hR
      rcases run1_r ds vals' orgs' with hr0 | ⟨k, hr0⟩
      · rw [hr0] at hR ⊢
        rw [if_pos rfl] at hR
        rw [← hR] at q
        walk_at "rd"
        exact q H2 (s1.trans s2) V2
      · rw [hr0] at hR ⊢
        rw [if_neg (by intro z; cases z)] at hR
        walk_at "rd"
        exact ⟨hi, s1.trans s2, _, _, _, _, rfl, V2, hR⟩
    · rintro σ H1 ⟨_, s1, vals', orgs', r, va, rfl, V1, hR⟩
      rw [Nat.sub_self, rounds] at hR
      walk_at "rd"
      rw [← hR] at q
      exact q H1 s1 V1
noncomputable def lv (n : Nat) (ds : List Dm) : Option (List Int) := if (rounds ds n (List.replicate n 0) (List.replicate n .non) .non).2.2 = .non then some (rounds ds n (List.replicate n 0) (List.replicate n .non) .non).1 else none
noncomputable def Ans (Q : VK) (H' : Hp) : Option (List Int) → Prop
  | none => Q .non H'
  | some vals => ∀ p, H' p = some (.tup (vals.map V.int)) → Q (.ref p) H'
noncomputable def sp_least_values : Sp := fun vs H Q _ => ∃ l ds n xs, vs = [.int (n : Nat), .ref l] ∧ n ≤ 8 ∧ H l = some (.lst xs) ∧ IsAll H xs (ds.map trD) ∧ dmOk n ds ∧ ∀ H', Same H H' → Ans Q H' (lv n ds)
theorem rep_int (n : Nat) : List.replicate n (V.int 0) = (List.replicate n (0 : Int)).map V.int := by rw [List.map_replicate]
theorem ok_least_values (T : Txt K mg t) : FnOk P w K mg base CX0 3 t.a_least_values t.d_least_values ["many", "demands"] sp_least_values := by
  refine T.F_least_values.ok sc_least_values (fun vs H Q E h => ?_) (fun cdv A outer s H vs Q E hr h => ?_)
  · obtain ⟨l, ds, n, xs, rfl, _⟩ := h
    rfl
  · obtain ⟨l, ds, n, xs, rfl, hn, hl, hxs, hds, q⟩ := h
    refine ⟨_, (pss_cons (ps_set (i := 2) sc_least_values.nd rfl (Or.inl rfl) (pe_op op_rep (pe_lst (pa_cons pe_int pa_nil)) (pv 0)))
      (pss_cons (ps_if (pt_cmpR o_isN (pe_call (ok_raise_all T) (hr.mono (by decide)) rfl T.m_raise_all T.F_raise_all.kp T.b_raise_all .nil pass0 (pa_cons (pv 1) (pa_cons (pv 2) (pa_cons (pe_op op_rep (pe_lst (pa_cons pe_non pa_nil)) (pv 0)) pa_nil)))) pe_non (nomark _)) (pss_one (ps_ret (pe_callTy (k_tuple K) (by rfl) T.n_tuple bt_tuple (pa_cons (pv 2) pa_nil)))) pss_nil)
      (pss_one (ps_ret pe_non)))), ?_⟩
    walk_at "rd"
    refine ⟨by show 1 ≤ sizeLine; decide, fun p1 hp1 => ?_⟩
    have s1 := Same.upd (o := .lst [V.int 0]) hp1
    walk_at "rd"
    refine rd_rep upd_same (by omega) fun v hv => ?_
    have s2 := s1.trans (Same.upd (o := .lst (List.replicate n (V.int 0))) hv)
    walk_at "rd"
    refine ⟨by show 1 ≤ sizeLine; decide, fun p2 hp2 => ?_⟩
    have s3 := s2.trans (Same.upd (o := .lst [V.non]) hp2)
    walk_at "rd"
    refine rd_rep upd_same (by omega) fun o ho => ?_
    walk_at "rd"
    generalize hG : upd (upd (upd (upd H p1 (.lst [V.int 0])) v (.lst (List.replicate n (V.int 0)))) p2 (.lst [V.non])) o (.lst (List.replicate n V.non)) = G at *
    have s4 : Same H G := by rw [← hG]; exact s3.trans (Same.upd ho)
    have nvp : v ≠ p2 := ne_of_none upd_same hp2
    have nvo : v ≠ o := by
      refine ne_of_none (o := .lst (List.replicate n (V.int 0))) ?_ ho
      rw [upd_ne nvp, upd_same]
    have gv : G v = some (.lst ((List.replicate n (0 : Int)).map V.int)) := by rw [← hG, upd_ne nvo, upd_ne nvp, upd_same, rep_int]
    have go : G o = some (.lst (List.replicate n V.non)) := by rw [← hG, upd_same]
    have nlv : l ≠ v := by
      intro z
      subst z
      rw [s1 _ _ hl] at hv
      cases hv
    have nlo : l ≠ o := by
      intro z
      subst z
      rw [s3 _ _ hl] at ho
      cases ho
    refine ⟨l, v, o, ds, _, _, n, xs, rfl, hn, s4 _ _ hl, hxs.same s4, ⟨gv, go, List.length_replicate, List.length_replicate⟩, nlv, nlo, nvo, hds, fun H' s5 V5 => ?_⟩
    have sH : Same H H' := fun b u e => by
      refine s5 b u (s4 b u e) ?_ ?_
      · intro z; subst z; rw [s1 _ _ e] at hv; cases hv
      · intro z; subst z; rw [s3 _ _ e] at ho; cases ho
    unfold lv at q
    have hv5 := V5.hv
    rcases (show (rounds ds n (List.replicate n 0) (List.replicate n .non) .non).2.2 = .non ∨ ¬ (rounds ds n (List.replicate n 0) (List.replicate n .non) .non).2.2 = .non from Classical.em _) with hz | hz
    · rw [hz]
      rw [if_pos hz] at q
      walk_at "rd"
      intro p hp
      walk_at "rd"
      have q' := q _ (sH.trans (Same.upd (o := .tup ((rounds ds n (List.replicate n 0) (List.replicate n .non) .non).1.map V.int)) hp))
      exact q' p upd_same
    · rw [if_neg hz] at q
      walk_at "rd"
      refine ifF (decide_eq_false hz) ?_
      walk_at "rd"
      exact q H' sH
theorem dmI_ok {n : Nat} {ps : List (Int × Int)} {st : Int} {i j : Nat} (hi : i < n) (hj : j < n) : dmOk n (dmI ps st i j) := by
  intro d hd
  unfold dmI at hd
  split at hd
  · cases hd
  · split at hd
    · rcases List.mem_singleton.mp hd with rfl
      exact ⟨hi, hj⟩
    · cases hd
theorem dmAll_ok (n : Nat) (ps : List (Int × Int)) (st : Int) : dmOk n (dmAll n ps st n) := by
  intro d hd
  obtain ⟨i, hi, hd⟩ := List.mem_flatMap.mp hd
  obtain ⟨j, hj, hd⟩ := List.mem_flatMap.mp hd
  exact dmI_ok (List.mem_range.mp hi) (List.mem_range.mp hj) d hd
noncomputable def nums (n : Nat) (ps : List (Int × Int)) (st : Int) : Option (List Int) := lv n (dmAll n ps st n)
end
end My

set_option Elab.async false
set_option linter.all false
set_option maxRecDepth 100000
set_option maxHeartbeats 4000000
namespace My
open PySem L2
section
variable {P : Program} {w : World} {K : PySem.W.Frag} {mg : Str → Option Value} {base : Heap} {t : Ad}
theorem step_ok {st : Int} (h1 : 1 ≤ st) (h2 : st ≤ 999) : wholeB (.int st) 1 999 = true := by
  show (decide (1 ≤ st) && decide (st ≤ 999)) = true
  simp [h1, h2]
noncomputable def sp_numbers : Sp := fun vs H Q _ => ∃ x n ps st, vs = [x, .int st] ∧ Is H x (ordD n ps) ∧ Ord n ps ∧ 1 ≤ st ∧ st ≤ 999 ∧ ∀ H', Same H H' → Ans Q H' (nums n ps st)
theorem ok_numbers (T : Txt K mg t) : FnOk P w K mg base CX0 6 t.a_numbers t.d_numbers ["order", "step"] sp_numbers := by
  refine T.F_numbers.ok sc_numbers (fun vs H Q E h => ?_) (fun cdv A outer s H vs Q E hr h => ?_)
  · obtain ⟨x, n, ps, st, rfl, _⟩ := h
    rfl
  · obtain ⟨x, n, ps, st, rfl, hx, ho, h1, h2, q⟩ := h
    refine ⟨_, (pss_cons (ps_expr (pe_call (ok_need_order T) (hr.mono (by decide)) rfl T.m_need_order T.F_need_order.kp T.b_need_order .nil pass0 (pa_cons (pv 0) pa_nil)))
      (pss_cons (ps_expr (pe_call (ok_need_step T) (hr.mono (by decide)) rfl T.m_need_step T.F_need_step.kp T.b_need_step .nil pass0 (pa_cons (pv 1) pa_nil)))
      (pss_one (ps_ret (pe_call (ok_least_values T) (hr.mono (by decide)) rfl T.m_least_values T.F_least_values.kp T.b_least_values .nil pass0 (pa_cons (pe_ix (k_ix K) (pv 0) pe_int (fun _ _ => rfl)) (pa_cons (pe_call (ok_all_demands T) (hr.mono (by decide)) rfl T.m_all_demands T.F_all_demands.kp T.b_all_demands .nil pass0 (pa_cons (pv 0) (pa_cons (pv 1) pa_nil))) pa_nil))))))), ?_⟩
    walk_at "rd"
    refine ⟨_, _, rfl, hx, ho.okd, ho.yes, fun H1 s1 => ?_⟩
    walk_at "rd"
    refine ⟨_, _, rfl, .int st, step_ok h1 h2, ?_⟩
    obtain ⟨a, b, xs, rfl, ea, eb, hxs⟩ := is_ord (hx.same s1)
    walk_at "rd"
    refine ⟨_, n, ps, st, rfl, hx.same s1, ho.hi, fun l ys H2 s2 hl hl2 hys => ?_⟩
    walk_at "rd"
    exact ⟨l, _, n, ys, rfl, ho.hi, hl2, hys, dmAll_ok n ps st, fun H3 s3 => q H3 ((s1.trans s2).trans s3)⟩
end
end My

set_option Elab.async false
set_option linter.all false
set_option maxRecDepth 100000
set_option maxHeartbeats 4000000
namespace My
open PySem L2
section
variable {P : Program} {w : World} {K : PySem.W.Frag} {mg : Str → Option Value} {base : Heap} {t : Ad}
noncomputable def tlI (st : Int) (vals : List Int) (i j : Nat) : List (Int × Int) := if vals.getD j 0 - vals.getD i 0 ≥ st then [((i : Int), (j : Int))] else []
noncomputable def tlRow (st : Int) (vals : List Int) (i m : Nat) : List (Int × Int) := (List.range m).flatMap (tlI st vals i)
noncomputable def tlAll (st : Int) (vals : List Int) (m : Nat) : List (Int × Int) := (List.range m).flatMap fun i => tlRow st vals i vals.length
noncomputable def toldL (st : Int) (vals : List Int) : List (Int × Int) := tlAll st vals vals.length
theorem tlRow_succ (st : Int) (vals : List Int) (i m : Nat) : tlRow st vals i (m + 1) = tlRow st vals i m ++ tlI st vals i m := by
  unfold tlRow
  rw [List.range_succ, List.flatMap_append]
  simp
theorem tlAll_succ (st : Int) (vals : List Int) (m : Nat) : tlAll st vals (m + 1) = tlAll st vals m ++ tlRow st vals m vals.length := by
  unfold tlAll
  rw [List.range_succ, List.flatMap_append]
  simp
theorem tlI_len (st : Int) (vals : List Int) (i j : Nat) : (tlI st vals i j).length ≤ 1 := by
  unfold tlI
  split
  · exact Nat.le_refl _
  · exact Nat.zero_le _
theorem tlRow_len (st : Int) (vals : List Int) (i : Nat) : ∀ m, (tlRow st vals i m).length ≤ m
  | 0 => Nat.le_refl _
  | m + 1 => by
    rw [tlRow_succ, List.length_append]
    have := tlRow_len st vals i m
    have := tlI_len st vals i m
    omega
theorem tlAll_len (st : Int) (vals : List Int) : ∀ m, (tlAll st vals m).length ≤ m * vals.length
  | 0 => Nat.zero_le _
  | m + 1 => by
    rw [tlAll_succ, List.length_append, Nat.succ_mul]
    have := tlAll_len st vals m
    have := tlRow_len st vals m vals.length
    omega
theorem noLs_pr : ∀ ds : List (Int × Int), noLs (ds.map prD) = true
  | [] => rfl
  | d :: ds => by
    rw [List.map_cons, noLs, noLs_pr ds]
    rfl
noncomputable abbrev ltP (p q : Int × Int) : Prop := HT.lexLt [p.1, p.2] [q.1, q.2] = true
theorem ltP_of {p q : Int × Int} (h : p.1 < q.1 ∨ (p.1 = q.1 ∧ p.2 < q.2)) : ltP p q := by
  show HT.lexLt [p.1, p.2] [q.1, q.2] = true
  rw [HT.lexLt_cons]
  rcases h with h | ⟨h1, h2⟩
  · rw [if_neg (by omega)]
    exact decide_eq_true h
  · rw [if_pos h1, HT.lexLt_cons, if_neg (by omega)]
    exact decide_eq_true h2
theorem mem_tlI {st : Int} {vals : List Int} {i j : Nat} {p : Int × Int} : p ∈ tlI st vals i j ↔ p = ((i : Int), (j : Int)) ∧ vals.getD j 0 - vals.getD i 0 ≥ st := by
  unfold tlI
  split
  · rename_i h
    rw [List.mem_singleton]
    exact ⟨fun e => ⟨e, h⟩, fun e => e.1⟩
  · rename_i h
    constructor
    · intro e; cases e
    · intro e; exact absurd e.2 h
theorem mem_tlRow {st : Int} {vals : List Int} {i m : Nat} {p : Int × Int} : p ∈ tlRow st vals i m ↔ ∃ j, j < m ∧ p = ((i : Int), (j : Int)) ∧ vals.getD j 0 - vals.getD i 0 ≥ st := by
  unfold tlRow
  rw [List.mem_flatMap]
  constructor
  · rintro ⟨j, hj, h⟩
    exact ⟨j, List.mem_range.mp hj, mem_tlI.mp h⟩
  · rintro ⟨j, hj, h⟩
    exact ⟨j, List.mem_range.mpr hj, mem_tlI.mpr h⟩
theorem mem_tlAll {st : Int} {vals : List Int} {m : Nat} {p : Int × Int} : p ∈ tlAll st vals m ↔ ∃ i j, i < m ∧ j < vals.length ∧ p = ((i : Int), (j : Int)) ∧ vals.getD j 0 - vals.getD i 0 ≥ st := by
  unfold tlAll
  rw [List.mem_flatMap]
  constructor
  · rintro ⟨i, hi, h⟩
    obtain ⟨j, hj, e, g⟩ := mem_tlRow.mp h
    exact ⟨i, j, List.mem_range.mp hi, hj, e, g⟩
  · rintro ⟨i, j, hi, hj, e, g⟩
    exact ⟨i, List.mem_range.mpr hi, mem_tlRow.mpr ⟨j, hj, e, g⟩⟩
theorem row_up (st : Int) (vals : List Int) (i : Nat) : ∀ m, (tlRow st vals i m).Pairwise ltP
  | 0 => .nil
  | m + 1 => by
    rw [tlRow_succ, List.pairwise_append]
    refine ⟨row_up st vals i m, ?_, fun p hp q hq => ?_⟩
    · unfold tlI
      split
      · exact List.pairwise_singleton _ _
      · exact .nil
    · obtain ⟨j, hj, rfl, _⟩ := mem_tlRow.mp hp
      obtain ⟨rfl, _⟩ := mem_tlI.mp hq
      exact ltP_of (.inr ⟨rfl, by show (j : Int) < m; omega⟩)
theorem all_up (st : Int) (vals : List Int) : ∀ m, (tlAll st vals m).Pairwise ltP
  | 0 => .nil
  | m + 1 => by
    rw [tlAll_succ, List.pairwise_append]
    refine ⟨all_up st vals m, row_up st vals m _, fun p hp q hq => ?_⟩
    obtain ⟨i, j, hi, hj, rfl, _⟩ := mem_tlAll.mp hp
    obtain ⟨j', _, rfl, _⟩ := mem_tlRow.mp hq
    exact ltP_of (.inl (by show (i : Int) < m; omega))
theorem rising_of : ∀ {ps : List (Int × Int)}, ps.Pairwise ltP → risingB ps = true
  | [], _ => rfl
  | [_], _ => rfl
  | a :: b :: r, h => by
    rw [risingB, rising_of (List.pairwise_cons.mp h).2, (List.pairwise_cons.mp h).1 b List.mem_cons_self]
    rfl
theorem row_len {st : Int} (hs : 1 ≤ st) {vals : List Int} {i : Nat} : ∀ m, i < m → (tlRow st vals i m).length + 1 ≤ m
  | 0, h => by omega
  | m + 1, h => by
    rw [tlRow_succ, List.length_append]
    by_cases e : i = m
    · subst e
      have : tlI st vals i i = [] := by
        unfold tlI
        rw [if_neg (by omega)]
      rw [this]
      have := tlRow_len st vals i i
      simp only [List.length_nil]
      omega
    · have a := row_len (i := i) hs (vals := vals) m (by omega)
      have b := tlI_len st vals i m
      omega
theorem all_len {st : Int} (hs : 1 ≤ st) {vals : List Int} : ∀ m, m ≤ vals.length → (tlAll st vals m).length + m ≤ m * vals.length
  | 0, _ => by simp [tlAll]
  | m + 1, h => by
    rw [tlAll_succ, List.length_append, Nat.succ_mul]
    have a := all_len hs (vals := vals) m (by omega)
    have b := row_len hs (vals := vals) (i := m) vals.length (by omega)
    omega
theorem told_len {st : Int} (hs : 1 ≤ st) {vals : List Int} (h1 : 1 ≤ vals.length) (h8 : vals.length ≤ 8) : (toldL st vals).length < 64 := by
  have a := all_len hs (vals := vals) vals.length (Nat.le_refl _)
  have b : vals.length * vals.length ≤ 8 * 8 := Nat.mul_le_mul h8 h8
  unfold toldL
  omega
theorem told_ord {st : Int} (hs : 1 ≤ st) {vals : List Int} (h1 : 1 ≤ vals.length) (h8 : vals.length ≤ 8) : Ord vals.length (toldL st vals) where
  lo := h1
  hi := h8
  ix := fun p hp => by
    obtain ⟨i, j, hi, hj, rfl, g⟩ := mem_tlAll.mp hp
    refine ⟨by show (0 : Int) ≤ i; omega, by show (i : Int) < vals.length; omega, by show (0 : Int) ≤ j; omega, by show (j : Int) < vals.length; omega, ?_⟩
    intro e
    have e' : (i : Int) = j := e
    have : i = j := by omega
    subst this
    omega
  up := rising_of (all_up st vals _)
  sz := by
    have := told_len hs h1 h8
    omega
end
end My

set_option Elab.async false
set_option linter.all false
set_option maxRecDepth 100000
set_option maxHeartbeats 4000000
namespace My
open PySem L2
section
variable {P : Program} {w : World} {K : PySem.W.Frag} {mg : Str → Option Value} {base : Heap} {t : Ad}
/-! orders by what they hold -/
theorem filter_one {α : Type} (f : α → Bool) (x : α) : [x].filter f = if f x = true then [x] else [] := by
  cases h : f x <;> simp [h]
theorem lt_asym (p q : Int × Int) : ltP p q → ¬ ltP q p := fun h1 h2 => by
  have h2' : HT.lexLt [q.1, q.2] [p.1, p.2] = true := h2
  rw [lex_asym h1] at h2'
  cases h2'
theorem pw_of : ∀ {ps : List (Int × Int)}, risingB ps = true → ps.Pairwise ltP
  | [], _ => .nil
  | [_], _ => List.pairwise_singleton _ _
  | a :: b :: r, h => by
    rw [risingB, Bool.and_eq_true] at h
    have ih := pw_of h.2
    refine List.pairwise_cons.mpr ⟨fun x hx => ?_, ih⟩
    rcases List.mem_cons.mp hx with rfl | hx
    · exact h.1
    · exact lex_tr h.1 ((List.pairwise_cons.mp ih).1 x hx)
theorem has_iff {ps : List (Int × Int)} {i j : Int} : has ps i j = true ↔ (i, j) ∈ ps := by
  unfold has
  exact decide_eq_true_iff
theorem nd_of {ps : List (Int × Int)} (h : ps.Pairwise ltP) : ps.Nodup := by
  refine List.Pairwise.imp (fun {a b} hab z => ?_) h
  subst z
  exact lt_asym _ _ hab hab
theorem nat_len : ∀ (m : Nat) (l : List Nat), l.Nodup → (∀ x ∈ l, x < m) → l.length ≤ m
  | 0, [], _, _ => Nat.le_refl _
  | 0, x :: _, _, h => absurd (h x List.mem_cons_self) (Nat.not_lt_zero _)
  | m + 1, l, nd, h => by
    by_cases hm : m ∈ l
    · have := nat_len m (l.erase m) (nd.erase m) fun x hx => by
        have := (List.Nodup.mem_erase_iff nd).mp hx
        have := h x this.2
        omega
      rw [List.length_erase_of_mem hm] at this
      omega
    · have := nat_len m l nd fun x hx => by
        have h1 := h x hx
        have : x ≠ m := fun z => hm (z ▸ hx)
        omega
      omega
noncomputable def inBox (p : Int × Int) : Prop := 0 ≤ p.1 ∧ p.1 < 8 ∧ 0 ≤ p.2 ∧ p.2 < 8 ∧ p.1 ≠ p.2
theorem small_prs {ps : List (Int × Int)} (nd : ps.Nodup) (h : ∀ p ∈ ps, inBox p) : ps.length < 64 := by
  have e := nat_len 63 (ps.map fun p => (8 * p.1 + p.2).toNat) (by
    unfold List.Nodup
    rw [List.pairwise_map]
    refine List.Pairwise.imp_of_mem (fun {a b} ha hb hab z => hab ?_) nd
    obtain ⟨a1, a2, a3, a4, _⟩ := h a ha
    obtain ⟨b1, b2, b3, b4, _⟩ := h b hb
    have : 8 * a.1 + a.2 = 8 * b.1 + b.2 := by omega
    exact Prod.ext (by omega) (by omega)) (fun x hx => by
    obtain ⟨p, hp, rfl⟩ := List.mem_map.mp hx
    obtain ⟨a1, a2, a3, a4, _⟩ := h p hp
    show (8 * p.1 + p.2).toNat < 63
    omega)
  rw [List.length_map] at e
  omega
noncomputable def inN (n : Nat) (p : Int × Int) : Prop := 0 ≤ p.1 ∧ p.1 < n ∧ 0 ≤ p.2 ∧ p.2 < n ∧ p.1 ≠ p.2
theorem inN.box {n : Nat} (h8 : n ≤ 8) {p : Int × Int} (h : inN n p) : inBox p := by
  obtain ⟨a, b, c, d, e⟩ := h
  exact ⟨a, by omega, c, by omega, e⟩
theorem ord_of {n : Nat} {ps : List (Int × Int)} (lo : 1 ≤ n) (hi : n ≤ 8) (ix : ∀ p ∈ ps, inN n p) (up : ps.Pairwise ltP) : Ord n ps :=
  ⟨lo, hi, ix, rising_of up, Nat.le_of_lt (Nat.lt_of_lt_of_le (small_prs (nd_of up) fun p hp => (ix p hp).box hi) (by decide))⟩
theorem Ord.box {n : Nat} {ps : List (Int × Int)} (h : Ord n ps) {p : Int × Int} (hp : p ∈ ps) : inBox p := inN.box h.hi (h.ix p hp)
theorem Ord.in {n : Nat} {ps : List (Int × Int)} (h : Ord n ps) {i j : Int} (g : has ps i j = true) : inN n (i, j) := h.ix _ (has_iff.mp g)
/-- sorted of a list of pairs -/
theorem rd_sortP {H : Hp} {Q : VK} {p : Addr} {vs : List V} {ps : List (Int × Int)} (e : H p = some (.lst vs) ∨ H p = some (.tup vs)) (hv : IsAll H vs (ps.map prD)) (nd : ps.Nodup) (hb : ∀ p ∈ ps, inBox p)
    (h : ∀ (l : Addr) (vs' : List V) (ps' : List (Int × Int)), H l = none → IsAll H vs' (ps'.map prD) → ps'.Perm ps → ps'.Pairwise ltP → Q (.ref l) (upd H l (.lst vs'))) : rSorted K [.ref p] H Q := by
  have tn : ∀ ps : List (Int × Int), (ps.map fun p => [p.1, p.2]).map (tupOf []) = ps.map prD := fun ps => by rw [List.map_map]; rfl
  refine ⟨p, vs, [], ps.map fun p => [p.1, p.2], 2, rfl, e.elim (fun e => .inl (SqL.of e)) (fun e => .inr (SqT.of e)), by rw [tn]; exact hv, ?_, by decide, ?_, by rw [List.length_map]; exact small_prs nd hb, fun l vs' nss' hl ha hp hw => ?_⟩
  · intro ns hm
    obtain ⟨q, _, rfl⟩ := List.mem_map.mp hm
    rfl
  · unfold List.Nodup
    rw [List.pairwise_map]
    refine List.Pairwise.imp (fun {a b} hab z => hab ?_) nd
    injection z with z1 z2
    injection z2 with z2 _
    exact Prod.ext z1 z2
  · have key : ∀ l : List (List Int), (∀ ns ∈ l, ∃ a b, ns = [a, b]) → l = (l.map fun ns => (ns.getD 0 0, ns.getD 1 0)).map fun p => [p.1, p.2] := fun l hl => by
      induction l with
      | nil => rfl
      | cons x l ih =>
        obtain ⟨a, b, rfl⟩ := hl x List.mem_cons_self
        rw [List.map_cons, List.map_cons, ← ih fun ns hns => hl ns (List.mem_cons_of_mem _ hns)]
        rfl
    have e' := key nss' fun ns hns => by
      obtain ⟨q, _, rfl⟩ := List.mem_map.mp (hp.mem_iff.mp hns)
      exact ⟨_, _, rfl⟩
    generalize nss'.map (fun ns => (ns.getD 0 0, ns.getD 1 0)) = ps' at e'
    subst e'
    rw [tn] at ha
    have hw' := List.pairwise_map.mp hw
    refine h l vs' ps' hl ha ?_ hw'
    have h2 := hp.map fun ns : List Int => (ns.getD 0 0, ns.getD 1 0)
    rw [List.map_map, List.map_map] at h2
    have e1 : ∀ l : List (Int × Int), l.map ((fun ns : List Int => (ns.getD 0 0, ns.getD 1 0)) ∘ fun p => [p.1, p.2]) = l := fun l => by
      refine (List.map_congr_left fun p _ => ?_).trans (List.map_id l)
      rfl
    rw [e1, e1] at h2
    exact h2
/-- lists of ints compared -/
theorem eqvAll_ints : ∀ as bs : List Int, PyData.eqvAll (as.map .int) (bs.map .int) = decide (as = bs)
  | [], [] => rfl
  | [], _ :: _ => rfl
  | _ :: _, [] => rfl
  | a :: as, b :: bs => by
    rw [List.map_cons, List.map_cons, PyData.eqvAll, eqvAll_ints as bs, PyData.eqv]
    by_cases h : a = b
    · by_cases h2 : as = bs
      · subst h h2; simp
      · simp [h, h2]
    · simp [h]
theorem ok_ints (as : List Int) : okD (.list (as.map .int)) := by
  have h1 : PyData.canLayAll0 (as.map PyData.int) = true := by
    induction as with
    | nil => rfl
    | cons a as ih => rw [List.map_cons, PyData.canLayAll0, ih]; rfl
  have h2 : PyData.depthAll (as.map PyData.int) ≤ 0 := by
    clear h1
    induction as with
    | nil => exact Nat.le_refl _
    | cons a as ih => rw [List.map_cons, PyData.depthAll]; exact Nat.max_le.mpr ⟨Nat.le_refl _, ih⟩
  refine ⟨?_, ?_⟩
  · rw [PyData.canLay0]; exact h1
  · rw [PyData.depth]; omega
/-! pairs row by row -/
end
end My


set_option Elab.async false
set_option linter.all false
set_option maxRecDepth 100000
set_option maxHeartbeats 4000000
namespace My
open PySem L2
section
variable {P : Program} {w : World} {K : PySem.W.Frag} {mg : Str → Option Value} {base : Heap} {t : Ad}
noncomputable def sp_cell (K : PySem.W.Frag) : Sp := fun vs H Q _ => ∃ a ns k, vs = [.ref a, .int k] ∧ Scr K H a ns ∧ 0 ≤ k ∧ ∀ c H', Same H H' → Q (.int c) H'
theorem int_at {ns : List Int} {k : Int} (h0 : 0 ≤ k) (h1 : k < ns.length) : atI (ns.map V.int) k = some (.int (ns.getD k.toNat 0)) := by
  refine atI_of (i := k.toNat) (by omega) ?_
  rw [List.getElem?_map]
  have : k.toNat < ns.length := by omega
  simp [this]
theorem ok__law_cell_at (T : Txt K mg t) : FnOk P w K mg base CX0 1 t.a__law_cell_at t.d__law_cell_at ["_law_script", "_law_k"] (sp_cell K) := by
  refine T.F__law_cell_at.ok sc__law_cell_at (fun vs H Q E h => ?_) (fun cdv A outer s H vs Q E hr h => ?_)
  · obtain ⟨a, ns, k, rfl, _⟩ := h
    rfl
  · obtain ⟨a, ns, k, rfl, hs, hk, q⟩ := h
    refine ⟨_, (pss_cons (ps_if (pt_cmpR (op_lt) (pv 1) (pe_callB (k_len K) (by rfl) T.n_len bt_len (pa_cons (pv 0) pa_nil)) (nomark _)) (pss_one (ps_ret (pe_ix (k_ix K) (pv 0) (pv 1) (fun _ _ => rfl)))) pss_nil)
      (pss_cons (ps_if (pt_cmpR (k_eqNil K hr.units0) (pv 0) (pe_lst pa_nil) (nomark _)) (pss_one (ps_ret pe_int)) pss_nil)
      (pss_one (ps_ret (pe_op op_add (pe_op op_mul (pe_ix (k_ix K) (pv 0) (pe_op op_mod (pv 1) (pe_callB (k_len K) (by rfl) T.n_len bt_len (pa_cons (pv 0) pa_nil))) (fun _ _ => rfl)) pe_int) (pv 1)))))), ?_⟩
    walk_at "rd"
    refine rd_lenS hs.sq ?_
    walk_at "rd"
    refine ifB (fun h1 => ?_) (fun h1 => ?_)
    · have h1' := of_decide_eq_true h1
      rw [List.length_map] at h1'
      walk_at "rd"
      refine rd_ixS hs.sq (int_at hk h1') ?_
      exact q _ H (Same.refl H)
    · walk_at "rd"
      refine ⟨Nat.zero_le _, fun p hp => ?_⟩
      have s1 := Same.upd (o := .lst []) hp
      walk_at "rd"
      refine ⟨a, p, ns, rfl, rfl, (hs.same s1).sq, SqL.of upd_same, ?_⟩
      walk_at "rd"
      refine ifB (fun h2 => ?_) (fun h2 => ?_)
      · walk_at "rd"
        exact q _ _ s1
      · have h2' := of_decide_eq_false h2
        have hl : 0 < ns.length := List.length_pos_iff.mpr h2'
        walk_at "rd"
        refine rd_lenS (hs.same s1).sq ?_
        rw [List.length_map]
        refine rd_I (by omega) ?_
        refine rd_ixS (hs.same s1).sq (int_at (Int.emod_nonneg _ (by omega)) (Int.emod_lt_of_pos _ (by omega))) ?_
        walk_at "rd"
        refine rd_I (.inr ⟨by decide, by decide⟩) ?_
        walk_at "rd"
        exact q _ _ s1
noncomputable def sp_mixed (K : PySem.W.Frag) : Sp := fun vs H Q _ => ∃ a ns k m, vs = [.ref a, .int k, .int m] ∧ Scr K H a ns ∧ 0 ≤ k ∧ 0 < m ∧ ∀ r H', Same H H' → 0 ≤ r → r < m → Q (.int r) H'
theorem ok__law_mixed (T : Txt K mg t) : FnOk P w K mg base CX0 2 t.a__law_mixed t.d__law_mixed ["_law_script", "_law_k", "_law_many"] (sp_mixed K) := by
  refine T.F__law_mixed.ok sc__law_mixed (fun vs H Q E h => ?_) (fun cdv A outer s H vs Q E hr h => ?_)
  · obtain ⟨a, ns, k, m, rfl, _⟩ := h
    rfl
  · obtain ⟨a, ns, k, m, rfl, hs, hk, hm, q⟩ := h
    refine ⟨_, (pss_cons (ps_set (i := 3) sc__law_mixed.nd rfl (Or.inl rfl) (pe_op op_mod (pe_op op_mul (pe_op op_add (pe_op op_add (pe_call (ok__law_cell_at T) (hr.mono (by decide)) rfl T.m__law_cell_at T.F__law_cell_at.kp T.b__law_cell_at .nil pass0 (pa_cons (pv 0) (pa_cons (pv 1) pa_nil))) (pe_op op_mul pe_int (pv 1))) pe_int) pe_int) pe_int))
      (pss_one (ps_ret (pe_op op_mod (pe_op op_mod (pe_op op_add (pe_op op_add (pe_op op_mul (pv 3) (pv 3)) (pe_op op_mul pe_int (pv 3))) (pv 1)) pe_int) (pv 2))))), ?_⟩
    walk_at "rd"
    refine ⟨a, ns, k, rfl, hs, hk, fun c H1 s1 => ?_⟩
    walk_at "rd"
    refine rd_I (.inl ⟨by decide, by decide⟩) ?_
    walk_at "rd"
    refine rd_I (.inr ⟨by decide, by decide⟩) ?_
    walk_at "rd"
    refine rd_I (by decide) ?_
    walk_at "rd"
    have d0 := Int.emod_nonneg ((c + 7919 * k + 1) * 48271) (show (2147483647 : Int) ≠ 0 by decide)
    have d1 := Int.emod_lt_of_pos ((c + 7919 * k + 1) * 48271) (show (0 : Int) < 2147483647 by decide)
    generalize ((c + 7919 * k + 1) * 48271) % 2147483647 = dr at d0 d1
    refine rd_I (.inl ⟨by omega, by omega⟩) ?_
    walk_at "rd"
    refine rd_I (.inl ⟨by decide, by decide⟩) ?_
    walk_at "rd"
    refine rd_I (by decide) ?_
    walk_at "rd"
    refine rd_I hm ?_
    exact q _ H1 s1 (Int.emod_nonneg _ (by omega)) (Int.emod_lt_of_pos _ hm)
noncomputable def sp_draw (K : PySem.W.Frag) : Sp := fun vs H Q _ => ∃ a ns tw ts m, vs = [.ref a, .ref tw, .int m] ∧ Scr K H a ns ∧ H tw = some (.lst ts) ∧ ts.length ≤ 500 ∧ 0 < m ∧
  ∀ r H' ts', SameT tw H H' → H' tw = some (.lst ts') → ts'.length = ts.length + 1 → 0 ≤ r → r < m → Q (.int r) H'
theorem ok__law_draw (T : Txt K mg t) : FnOk P w K mg base CX0 3 t.a__law_draw t.d__law_draw ["_law_script", "_law_town", "_law_many"] (sp_draw K) := by
  refine T.F__law_draw.ok sc__law_draw (fun vs H Q E h => ?_) (fun cdv A outer s H vs Q E hr h => ?_)
  · obtain ⟨a, ns, tw, ts, m, rfl, _⟩ := h
    rfl
  · obtain ⟨a, ns, tw, ts, m, rfl, hs, ht, hl, hm, q⟩ := h
    refine ⟨_, (pss_cons (ps_expr (k_bm K PySem.F.plainAttrs_list PySem.F.slot_list_append PySem.F.type_list_append mt_append (pv 1) (pa_cons pe_int pa_nil)))
      (pss_one (ps_ret (pe_call (ok__law_mixed T) (hr.mono (by decide)) rfl T.m__law_mixed T.F__law_mixed.kp T.b__law_mixed .nil pass0 (pa_cons (pv 0) (pa_cons (pe_callB (k_len K) (by rfl) T.n_len bt_len (pa_cons (pv 1) pa_nil)) (pa_cons (pv 2) pa_nil))))))), ?_⟩
    walk_at "rd"
    refine ⟨tyV_lst ht, ?_⟩
    walk_at "rd"
    refine rd_append ht (small1000 (by omega)) ?_
    have s1 : SameT tw H (upd H tw (.lst (ts ++ [V.int 0]))) := fun b u e g => by rw [upd_ne g]; exact e
    have ht1 : upd H tw (.lst (ts ++ [V.int 0])) tw = some (.lst (ts ++ [V.int 0])) := upd_same
    walk_at "rd"
    refine ⟨a, ns, _, m, rfl, hs.t ht s1, by omega, hm, fun r H2 s2 h0 h1 => ?_⟩
    exact q r H2 _ (s1.trans s2.t) (s2 _ _ ht1) (by simp) h0 h1
noncomputable def sp_pick (K : PySem.W.Frag) : Sp := fun vs H Q _ => ∃ a ns tw ts l xs, vs = [.ref a, .ref tw, .ref l] ∧ Scr K H a ns ∧ H tw = some (.lst ts) ∧ ts.length ≤ 500 ∧ H l = some (.lst xs) ∧ l ≠ tw ∧ 0 < xs.length ∧
  ∀ v H' ts', SameT tw H H' → H' tw = some (.lst ts') → ts'.length = ts.length + 1 → v ∈ xs → Q v H'
theorem ok__law_pick (T : Txt K mg t) : FnOk P w K mg base CX0 4 t.a__law_pick t.d__law_pick ["_law_script", "_law_town", "_law_some"] (sp_pick K) := by
  refine T.F__law_pick.ok sc__law_pick (fun vs H Q E h => ?_) (fun cdv A outer s H vs Q E hr h => ?_)
  · obtain ⟨a, ns, tw, ts, l, xs, rfl, _⟩ := h
    rfl
  · obtain ⟨a, ns, tw, ts, l, xs, rfl, hs, ht, hl, el, nl, hx, q⟩ := h
    refine ⟨_, (pss_one (ps_ret (pe_ix (k_ix K) (pv 2) (pe_call (ok__law_draw T) (hr.mono (by decide)) rfl T.m__law_draw T.F__law_draw.kp T.b__law_draw .nil pass0 (pa_cons (pv 0) (pa_cons (pv 1) (pa_cons (pe_callB (k_len K) (by rfl) T.n_len bt_len (pa_cons (pv 2) pa_nil)) pa_nil)))) (fun _ _ => rfl)))), ?_⟩
    walk_at "rd"
    refine ⟨a, ns, tw, ts, _, rfl, hs, ht, hl, by omega, fun r H1 ts' s1 ht1 hl1 h0 h1 => ?_⟩
    have hr' : r.toNat < xs.length := by omega
    refine rd_ixL (s1 _ _ el nl) (atI_of (i := r.toNat) (by omega) (List.getElem?_eq_getElem hr')) ?_
    exact q _ H1 ts' s1 ht1 hl1 (List.getElem_mem hr')
end
end My

set_option Elab.async false
set_option linter.all false
set_option maxRecDepth 100000
set_option maxHeartbeats 4000000
namespace My
open PySem L2
section
variable {P : Program} {w : World} {K : PySem.W.Frag} {mg : Str → Option Value} {base : Heap} {t : Ad}
theorem SameT.of {w : Addr} {H : Hp} {l : Addr} {o : HO} (h : H l = none) : SameT w H (upd H l o) := (Same.upd h).t
end
end My

set_option Elab.async false
set_option linter.all false
set_option maxRecDepth 100000
set_option maxHeartbeats 1000000
namespace My
open PySem L2
/-! raising, as it goes -/
noncomputable abbrev gt (l : List Int) (v : Nat) : Int := l.getD v 0
theorem gt_set {l : List Int} {j v : Nat} {a : Int} (hj : j < l.length) : gt (l.set j a) v = if v = j then a else gt l v := by
  unfold gt
  rw [List.getD_eq_getElem?_getD, List.getD_eq_getElem?_getD, List.getElem?_set]
  by_cases h : v = j
  · subst h; simp [hj]
  · rw [if_neg (Ne.symm h), if_neg h]
noncomputable def SolD (ds : List Dm) (x : Nat → Int) : Prop := ∀ d ∈ ds, x d.1 + d.2.2 ≤ x d.2.1
theorem rel1_mono {s : Rs} {d : Dm} {n : Nat} (hl : s.1.length = n) (hd : d.2.1 < n) (v : Nat) : gt s.1 v ≤ gt (rel1 s d).1 v := by
  unfold rel1
  split
  · rename_i h
    show gt s.1 v ≤ gt (s.1.set d.2.1 (s.1.getD d.1 0 + d.2.2)) v
    rw [gt_set (by omega)]
    split
    · rename_i e
      subst e
      exact Int.le_of_lt h
    · exact Int.le_refl _
  · exact Int.le_refl _
theorem fold_mono {n : Nat} : ∀ (ds : List Dm) (s : Rs), s.1.length = n → dmOk n ds → ∀ v, gt s.1 v ≤ gt (ds.foldl rel1 s).1 v
  | [], s, _, _, v => Int.le_refl _
  | d :: ds, s, hl, hd, v => by
    rw [List.foldl_cons]
    have a := rel1_mono hl (hd d List.mem_cons_self).2 v
    have b := fold_mono ds (rel1 s d) ((rel1_len s d).1.trans hl) (fun e he => hd e (List.mem_cons_of_mem _ he)) v
    exact Int.le_trans a b
theorem rel1_le {s : Rs} {d : Dm} {n : Nat} {x : Nat → Int} (hl : s.1.length = n) (hd : d.1 < n ∧ d.2.1 < n) (hx : x d.1 + d.2.2 ≤ x d.2.1) (h : ∀ v, v < n → gt s.1 v ≤ x v) : ∀ v, v < n → gt (rel1 s d).1 v ≤ x v := fun v hv => by
  unfold rel1
  split
  · show gt (s.1.set d.2.1 (s.1.getD d.1 0 + d.2.2)) v ≤ x v
    rw [gt_set (by omega)]
    split
    · rename_i e
      subst e
      have := h d.1 hd.1
      show gt s.1 d.1 + d.2.2 ≤ _
      omega
    · exact h v hv
  · exact h v hv
theorem fold_le {n : Nat} {x : Nat → Int} : ∀ (ds : List Dm) (s : Rs), s.1.length = n → dmOk n ds → SolD ds x → (∀ v, v < n → gt s.1 v ≤ x v) → ∀ v, v < n → gt (ds.foldl rel1 s).1 v ≤ x v
  | [], s, _, _, _, h => h
  | d :: ds, s, hl, hd, hx, h => by
    rw [List.foldl_cons]
    exact fold_le ds (rel1 s d) ((rel1_len s d).1.trans hl) (fun e he => hd e (List.mem_cons_of_mem _ he)) (fun e he => hx e (List.mem_cons_of_mem _ he)) (rel1_le hl (hd d List.mem_cons_self) (hx d List.mem_cons_self) h)
theorem fold_ge {n : Nat} : ∀ (ds : List Dm) (s : Rs), s.1.length = n → dmOk n ds → ∀ d ∈ ds, gt s.1 d.1 + d.2.2 ≤ gt (ds.foldl rel1 s).1 d.2.1
  | [], s, _, _, d, h => by cases h
  | e :: ds, s, hl, hd, d, h => by
    rw [List.foldl_cons]
    have hl' := (rel1_len s e).1.trans hl
    have hd' : dmOk n ds := fun e he => hd e (List.mem_cons_of_mem _ he)
    have m1 := rel1_mono hl (hd e List.mem_cons_self).2 d.1
    rcases List.mem_cons.mp h with rfl | h'
    · have m2 := fold_mono ds (rel1 s d) hl' hd' d.2.1
      have : gt s.1 d.1 + d.2.2 ≤ gt (rel1 s d).1 d.2.1 := by
        unfold rel1
        split
        · show _ ≤ gt (s.1.set d.2.1 (s.1.getD d.1 0 + d.2.2)) d.2.1
          rw [gt_set (by have := (hd d List.mem_cons_self).2; omega), if_pos rfl]
          exact Int.le_refl _
        · rename_i g
          exact Int.not_lt.mp g
      omega
    · have := fold_ge ds (rel1 s e) hl' hd' d h'
      omega
theorem fold_int : ∀ (ds : List Dm) (s : Rs) (k : Int), s.2.2 = .int k → ∃ k', (ds.foldl rel1 s).2.2 = .int k'
  | [], s, k, h => ⟨k, h⟩
  | d :: ds, s, k, h => by
    rw [List.foldl_cons]
    by_cases g : s.1.getD d.1 0 + d.2.2 > s.1.getD d.2.1 0
    · refine fold_int ds (rel1 s d) d.2.1 ?_
      unfold rel1
      rw [if_pos g]
    · refine fold_int ds (rel1 s d) k ?_
      unfold rel1
      rw [if_neg g]
      exact h
theorem fold_non : ∀ (ds : List Dm) (s : Rs), (ds.foldl rel1 s).2.2 = .non → ds.foldl rel1 s = s ∧ ∀ d ∈ ds, gt s.1 d.1 + d.2.2 ≤ gt s.1 d.2.1
  | [], s, _ => ⟨rfl, fun _ h => nomatch h⟩
  | d :: ds, s, h => by
    rw [List.foldl_cons] at h ⊢
    by_cases g : s.1.getD d.1 0 + d.2.2 > s.1.getD d.2.1 0
    · obtain ⟨k, e⟩ := fold_int ds (rel1 s d) d.2.1 (by unfold rel1; rw [if_pos g])
      rw [e] at h
      cases h
    · have e : rel1 s d = s := by unfold rel1; rw [if_neg g]
      rw [e] at h ⊢
      obtain ⟨a, b⟩ := fold_non ds s h
      refine ⟨a, fun c hc => ?_⟩
      rcases List.mem_cons.mp hc with rfl | hc
      · exact Int.not_lt.mp g
      · exact b c hc
theorem fold_fix : ∀ (ds : List Dm) (s : Rs), (∀ d ∈ ds, gt s.1 d.1 + d.2.2 ≤ gt s.1 d.2.1) → ds.foldl rel1 s = s
  | [], s, _ => rfl
  | d :: ds, s, h => by
    rw [List.foldl_cons]
    have e : rel1 s d = s := by unfold rel1; rw [if_neg (Int.not_lt.mpr (h d List.mem_cons_self))]
    rw [e]
    exact fold_fix ds s fun e he => h e (List.mem_cons_of_mem _ he)
theorem rounds_ok {n : Nat} {ds : List Dm} (hd : dmOk n ds) : ∀ (k : Nat) (vals : List Int) (orgs : List V) (r : V), vals.length = n → (1 ≤ k ∨ r ≠ .non) → (rounds ds k vals orgs r).2.2 = .non →
    (rounds ds k vals orgs r).1.length = n ∧ (∀ v, gt vals v ≤ gt (rounds ds k vals orgs r).1 v) ∧ (∀ d ∈ ds, gt (rounds ds k vals orgs r).1 d.1 + d.2.2 ≤ gt (rounds ds k vals orgs r).1 d.2.1) ∧
    ∀ x, SolD ds x → (∀ v, v < n → gt vals v ≤ x v) → ∀ v, v < n → gt (rounds ds k vals orgs r).1 v ≤ x v
  | 0, vals, orgs, r, hl, h, e => by
    rcases h with h | h
    · omega
    · exact absurd e h
  | k + 1, vals, orgs, r, hl, _, e => by
    rw [rounds] at e ⊢
    by_cases g : (run1 ds vals orgs).2.2 = .non
    · rw [if_pos g]
      obtain ⟨a, b⟩ := fold_non ds _ g
      have ea : (run1 ds vals orgs).1 = vals := congrArg (fun s : Rs => s.1) a
      show (run1 ds vals orgs).1.length = n ∧ (∀ v, gt vals v ≤ gt (run1 ds vals orgs).1 v) ∧ (∀ d ∈ ds, gt (run1 ds vals orgs).1 d.1 + d.2.2 ≤ gt (run1 ds vals orgs).1 d.2.1) ∧ ∀ x, SolD ds x → (∀ v, v < n → gt vals v ≤ x v) → ∀ v, v < n → gt (run1 ds vals orgs).1 v ≤ x v
      rw [ea]
      exact ⟨hl, fun v => Int.le_refl _, b, fun x _ h => h⟩
    · rw [if_neg g] at e ⊢
      have hl' : (run1 ds vals orgs).1.length = n := (run1_len ds vals orgs).1.trans hl
      obtain ⟨a, b, c, d⟩ := rounds_ok hd k _ _ _ hl' (.inr g) e
      refine ⟨a, fun v => Int.le_trans (fold_mono ds (vals, orgs, .non) hl hd v) (b v), c, fun x sx hx => d x sx (fold_le ds (vals, orgs, .non) hl hd sx hx)⟩
noncomputable def cnt (n : Nat) (x : Nat → Int) (vals : List Int) : Nat := (List.range n).countP fun v => decide (gt vals v = x v)
theorem cnt_le (n : Nat) (x : Nat → Int) (vals : List Int) : cnt n x vals ≤ n := by
  have := List.countP_le_length (l := List.range n) (p := fun v => decide (gt vals v = x v))
  rw [List.length_range] at this
  exact this
theorem cnt_all {n : Nat} {x : Nat → Int} {vals : List Int} (h : n ≤ cnt n x vals) : ∀ v, v < n → gt vals v = x v := by
  have e : (List.range n).countP (fun v => decide (gt vals v = x v)) = (List.range n).length := by
    have := cnt_le n x vals
    rw [List.length_range]
    unfold cnt at h this
    omega
  have := List.countP_eq_length.mp e
  intro v hv
  exact of_decide_eq_true (this v (List.mem_range.mpr hv))
/-- x is the solution whose sum is least; where some numbers are less than x's, a turn brings one more there -/
theorem turn_more {n : Nat} {ds : List Dm} (hd : dmOk n ds) {x : Nat → Int} (sx : SolD ds x) (nx : Nt.NN n x) (mx : ∀ z, SolD ds z → Nt.NN n z → Nt.sumTo x n ≤ Nt.sumTo z n) {F : Nat → Bool} (hF : ∃ v, v < n ∧ F v = false) (hp : ∀ v, v < n → F v = false → 0 < x v) :
    ∃ d ∈ ds, F d.1 = true ∧ F d.2.1 = false ∧ x d.2.1 = x d.1 + d.2.2 := by
  apply Classical.byContradiction
  intro hno
  obtain ⟨v, hv, fv⟩ := hF
  have s2 : SolD ds (fun i => if F i = true then x i else x i - 1) := fun d hm => by
    obtain ⟨h1, h2⟩ := hd d hm
    have g := sx d hm
    show (if F d.1 = true then x d.1 else x d.1 - 1) + d.2.2 ≤ (if F d.2.1 = true then x d.2.1 else x d.2.1 - 1)
    cases f1 : F d.1 with
    | true =>
      cases f2 : F d.2.1 with
      | true => simp; exact g
      | false =>
        simp
        by_cases e : x d.2.1 = x d.1 + d.2.2
        · exact absurd ⟨d, hm, f1, f2, e⟩ hno
        · omega
    | false =>
      cases f2 : F d.2.1 with
      | true => simp; omega
      | false => simp; omega
  have n2 : Nt.NN n (fun i => if F i = true then x i else x i - 1) := fun i hi => by
    show 0 ≤ (if F i = true then x i else x i - 1)
    cases f : F i with
    | true => simp; exact nx i hi
    | false =>
      simp
      have := hp i hi f
      omega
  have := mx _ s2 n2
  have lt := Nt.sum_lt (x := x) (y := fun i => if F i = true then x i else x i - 1) (n := n) (v := v) (fun i _ => by
    show (if F i = true then x i else x i - 1) ≤ x i
    split <;> omega) hv (by
    show (if F v = true then x v else x v - 1) < x v
    rw [fv]; simp; omega)
  omega
theorem cnt_more {n : Nat} {ds : List Dm} (hd : dmOk n ds) {x : Nat → Int} (sx : SolD ds x) (nx : Nt.NN n x) (mx : ∀ z, SolD ds z → Nt.NN n z → Nt.sumTo x n ≤ Nt.sumTo z n) {vals : List Int} {orgs : List V} (hl : vals.length = n) (h0 : ∀ v, v < n → 0 ≤ gt vals v) (hx : ∀ v, v < n → gt vals v ≤ x v)
    (hc : cnt n x vals < n) : cnt n x vals < cnt n x (run1 ds vals orgs).1 := by
  have hF : ∃ v, v < n ∧ decide (gt vals v = x v) = false := by
    apply Classical.byContradiction
    intro hno
    have : (List.range n).countP (fun v => decide (gt vals v = x v)) = (List.range n).length := List.countP_eq_length.mpr fun v hv => by
      cases g : decide (gt vals v = x v) with
      | true => rfl
      | false => exact absurd ⟨v, List.mem_range.mp hv, g⟩ hno
    rw [List.length_range] at this
    unfold cnt at hc
    omega
  obtain ⟨d, hm, f1, f2, e⟩ := turn_more hd sx nx mx (F := fun v => decide (gt vals v = x v)) hF fun v hv g => by
    have g' := of_decide_eq_false g
    have := h0 v hv
    have := hx v hv
    omega
  have f1' : gt vals d.1 = x d.1 := of_decide_eq_true f1
  have up : ∀ v, v < n → gt (run1 ds vals orgs).1 v ≤ x v := fold_le ds (vals, orgs, .non) hl hd sx hx
  have mo := fold_mono ds (vals, orgs, V.non) hl hd
  have ge := fold_ge ds (vals, orgs, V.non) hl hd d hm
  refine Nt.countP_lt (v := d.2.1) (fun i hi g => ?_) (List.mem_range.mpr (hd d hm).2) f2 ?_
  · have g' : gt vals i = x i := of_decide_eq_true g
    have a := up i (List.mem_range.mp hi)
    have b := mo i
    refine decide_eq_true ?_
    have b' : gt vals i ≤ gt (run1 ds vals orgs).1 i := b
    omega
  · refine decide_eq_true ?_
    have a := up _ (hd d hm).2
    have ge' : gt vals d.1 + d.2.2 ≤ gt (run1 ds vals orgs).1 d.2.1 := ge
    omega
theorem rounds_end {n : Nat} {ds : List Dm} (hd : dmOk n ds) {x : Nat → Int} (sx : SolD ds x) (nx : Nt.NN n x) (mx : ∀ z, SolD ds z → Nt.NN n z → Nt.sumTo x n ≤ Nt.sumTo z n) : ∀ (k : Nat) (vals : List Int) (orgs : List V) (r : V), vals.length = n → (∀ v, v < n → 0 ≤ gt vals v) → (∀ v, v < n → gt vals v ≤ x v) →
    n ≤ cnt n x vals + k → (rounds ds (k + 1) vals orgs r).2.2 = .non
  | k, vals, orgs, r, hl, h0, hx, hc => by
    rw [rounds]
    by_cases g : (run1 ds vals orgs).2.2 = .non
    · rw [if_pos g]
    · rw [if_neg g]
      by_cases hall : cnt n x vals < n
      · match k, hc with
        | 0, hc => omega
        | k + 1, hc =>
          have more := cnt_more (orgs := orgs) hd sx nx mx hl h0 hx hall
          refine rounds_end hd sx nx mx k _ _ _ ((run1_len ds vals orgs).1.trans hl) (fun v hv => ?_) (fold_le ds (vals, orgs, .non) hl hd sx hx) (by omega)
          have := fold_mono ds (vals, orgs, V.non) hl hd v
          have := h0 v hv
          show 0 ≤ gt (run1 ds vals orgs).1 v
          have e : gt vals v ≤ gt (run1 ds vals orgs).1 v := by assumption
          omega
      · exfalso
        apply g
        have ev := cnt_all (n := n) (x := x) (vals := vals) (by omega)
        have : run1 ds vals orgs = (vals, orgs, .non) := fold_fix ds _ fun d hm => by
          obtain ⟨a, b⟩ := hd d hm
          show gt vals d.1 + d.2.2 ≤ gt vals d.2.1
          rw [ev _ a, ev _ b]
          exact sx d hm
        rw [this]
theorem gt_rep (n v : Nat) : gt (List.replicate n (0 : Int)) v = 0 := by
  unfold gt
  rw [List.getD_eq_getElem?_getD, List.getElem?_replicate]
  split <;> rfl
/-- what least_values is worth -/
theorem lv_some {n : Nat} (hn : 1 ≤ n) {ds : List Dm} (hd : dmOk n ds) {vals : List Int} (h : lv n ds = some vals) : vals.length = n ∧ (∀ v, v < n → 0 ≤ gt vals v) ∧ SolD ds (gt vals) ∧ ∀ x, SolD ds x → Nt.NN n x → ∀ v, v < n → gt vals v ≤ x v := by
  unfold lv at h
  split at h
  · rename_i e
    cases h
    obtain ⟨a, b, c, d⟩ := rounds_ok hd n _ _ _ List.length_replicate (.inl hn) e
    refine ⟨a, fun v _ => ?_, c, fun x sx nx => d x sx fun v hv => ?_⟩
    · have := b v
      rw [gt_rep] at this
      exact this
    · rw [gt_rep]
      exact nx v hv
  · cases h
theorem lv_none {n : Nat} (hn : 1 ≤ n) {ds : List Dm} (hd : dmOk n ds) {x : Nat → Int} (sx : SolD ds x) (nx : Nt.NN n x) : ∃ vals, lv n ds = some vals := by
  have s0 := Nt.sum_nn nx
  obtain ⟨y, sy, ny, my⟩ := Nt.least_sum (n := n) (p := SolD ds) (Nt.sumTo x n).toNat x sx nx (by omega)
  have c1 : 1 ≤ cnt n y (List.replicate n 0) := by
    have : ∃ v, v < n ∧ y v = 0 := by
      apply Classical.byContradiction
      intro hno
      obtain ⟨d, hm, f1, _⟩ := turn_more hd sy ny my (F := fun _ => false) ⟨0, hn, rfl⟩ fun v hv _ => by
        have a := ny v hv
        by_cases e : y v = 0
        · exact absurd ⟨v, hv, e⟩ hno
        · omega
      cases f1
    obtain ⟨v, hv, e⟩ := this
    unfold cnt
    exact List.countP_pos_iff.mpr ⟨v, List.mem_range.mpr hv, decide_eq_true (by rw [gt_rep, e])⟩
  obtain ⟨m, rfl⟩ : ∃ m, n = m + 1 := ⟨n - 1, by omega⟩
  have e := rounds_end hd sy ny my m (List.replicate (m + 1) 0) (List.replicate (m + 1) .non) .non List.length_replicate (fun v _ => by rw [gt_rep]; exact Int.le_refl _) (fun v hv => by rw [gt_rep]; exact ny v hv) (by omega)
  exact ⟨_, by unfold lv; rw [if_pos e]⟩
end My

set_option Elab.async false
set_option linter.all false
set_option maxRecDepth 100000
set_option maxHeartbeats 1000000
namespace My
open PySem L2
/-! the round behind: when each thing was raised last (R: in which turn, T: when) -/
structure Orig (ds : List Dm) (s : Rs) (R T : Nat → Nat) (v u : Nat) (b : Int) : Prop where
  at' : s.2.1[v]? = some (.int (u : Nat))
  mem : (u, v, b) ∈ ds
  rr : R v ≤ R u + 1
  le : gt s.1 v ≤ gt s.1 u + b
  lt : T v < T u → gt s.1 v < gt s.1 u + b
structure Gh (n : Nat) (ds : List Dm) (p c : Nat) (pre suf : List Dm) (s : Rs) (R T : Nat → Nat) : Prop where
  lv : s.1.length = n
  lo : s.2.1.length = n
  or : ∀ v, v < n → (s.2.1[v]? = some .non ∧ R v = 0) ∨ (1 ≤ T v ∧ ∃ u b, Orig ds s R T v u b)
  suf : ∀ d ∈ suf, R d.1 + 1 < p → gt s.1 d.1 + d.2.2 ≤ gt s.1 d.2.1
  pre : ∀ d ∈ pre, R d.1 < p → gt s.1 d.1 + d.2.2 ≤ gt s.1 d.2.1
  rp : ∀ v, R v ≤ p
  tc : ∀ v, T v ≤ c
  inj : ∀ a b, 1 ≤ T a → T a = T b → a = b
noncomputable def setN (R : Nat → Nat) (v k : Nat) : Nat → Nat := fun i => if i = v then k else R i
theorem setN_at (R : Nat → Nat) (v k : Nat) : setN R v k v = k := by unfold setN; rw [if_pos rfl]
theorem setN_ne {R : Nat → Nat} {v k i : Nat} (h : i ≠ v) : setN R v k i = R i := by unfold setN; rw [if_neg h]
theorem gh_step {n : Nat} {ds : List Dm} (hd : dmOk n ds) (hne : ∀ d ∈ ds, d.1 ≠ d.2.1) {p c : Nat} {pre suf : List Dm} {d : Dm} {s : Rs} {R T : Nat → Nat} (hm : d ∈ ds) (g : Gh n ds p c pre (d :: suf) s R T) :
    ∃ R' T', Gh n ds p (c + 1) (pre ++ [d]) suf (rel1 s d) R' T' ∧ ((rel1 s d).2.2 = s.2.2 ∨ ∃ v : Nat, v < n ∧ (rel1 s d).2.2 = .int v ∧ R' v = p) ∧ ∀ v, R v = p → R' v = p := by
  obtain ⟨h1, h2⟩ := hd d hm
  have hn := hne d hm
  by_cases h : s.1.getD d.1 0 + d.2.2 > s.1.getD d.2.1 0
  · have e : rel1 s d = (s.1.set d.2.1 (s.1.getD d.1 0 + d.2.2), s.2.1.set d.2.1 (.int d.1), .int d.2.1) := by unfold rel1; rw [if_pos h]
    rw [e]
    have hu : p ≤ R d.1 + 1 := by
      refine Nat.le_of_not_lt fun z => ?_
      have := g.suf d List.mem_cons_self z
      show False
      have h' : gt s.1 d.1 + d.2.2 > gt s.1 d.2.1 := h
      omega
    have hlt : d.2.1 < s.1.length := by rw [g.lv]; exact h2
    have gs : ∀ w, gt (s.1.set d.2.1 (s.1.getD d.1 0 + d.2.2)) w = if w = d.2.1 then gt s.1 d.1 + d.2.2 else gt s.1 w := fun w => gt_set hlt
    have up : ∀ w, gt s.1 w ≤ gt (s.1.set d.2.1 (s.1.getD d.1 0 + d.2.2)) w := fun w => by
      rw [gs]
      split
      · rename_i e; subst e; exact Int.le_of_lt h
      · exact Int.le_refl _
    refine ⟨setN R d.2.1 p, setN T d.2.1 (c + 1), ⟨?_, ?_, fun v hv => ?_, fun x hx hr => ?_, fun x hx hr => ?_, fun v => ?_, fun v => ?_, fun a b ha hab => ?_⟩, .inr ⟨d.2.1, h2, rfl, setN_at _ _ _⟩, fun v hv => ?_⟩
    · show (s.1.set d.2.1 _).length = n
      rw [List.length_set]; exact g.lv
    · show (s.2.1.set d.2.1 _).length = n
      rw [List.length_set]; exact g.lo
    · by_cases ev : v = d.2.1
      · subst ev
        refine .inr ⟨by rw [setN_at]; omega, d.1, d.2.2, ?_, hm, ?_, ?_, ?_⟩
        · show (s.2.1.set d.2.1 (.int d.1))[d.2.1]? = _
          rw [List.getElem?_set_self (by rw [g.lo]; exact h2)]
        · rw [setN_at, setN_ne hn]; exact hu
        · show gt (s.1.set d.2.1 (s.1.getD d.1 0 + d.2.2)) d.2.1 ≤ gt (s.1.set d.2.1 (s.1.getD d.1 0 + d.2.2)) d.1 + d.2.2
          rw [gs, gs, if_pos rfl, if_neg hn]
          exact Int.le_refl _
        · rw [setN_at, setN_ne hn]
          intro z
          have := g.tc d.1
          omega
      · rcases g.or v hv with ⟨a, b⟩ | ⟨t1, u, b, o⟩
        · refine .inl ⟨?_, by rw [setN_ne ev]; exact b⟩
          show (s.2.1.set d.2.1 (.int d.1))[v]? = _
          rw [List.getElem?_set_ne (Ne.symm ev)]; exact a
        · refine .inr ⟨by rw [setN_ne ev]; exact t1, u, b, ?_, o.mem, ?_, ?_, ?_⟩
          · show (s.2.1.set d.2.1 (.int d.1))[v]? = _
            rw [List.getElem?_set_ne (Ne.symm ev)]; exact o.at'
          · rw [setN_ne ev]
            by_cases eu : u = d.2.1
            · subst eu; rw [setN_at]; have := g.rp v; omega
            · rw [setN_ne eu]; exact o.rr
          · show gt (s.1.set d.2.1 (s.1.getD d.1 0 + d.2.2)) v ≤ gt (s.1.set d.2.1 (s.1.getD d.1 0 + d.2.2)) u + b
            rw [gs v, if_neg ev]
            have := up u
            have := o.le
            omega
          · show _ → gt (s.1.set d.2.1 (s.1.getD d.1 0 + d.2.2)) v < gt (s.1.set d.2.1 (s.1.getD d.1 0 + d.2.2)) u + b
            rw [gs v, if_neg ev, setN_ne ev]
            by_cases eu : u = d.2.1
            · subst eu
              intro _
              rw [gs, if_pos rfl]
              have := o.le
              have h' : gt s.1 d.1 + d.2.2 > gt s.1 d.2.1 := h
              omega
            · rw [setN_ne eu, gs u, if_neg eu]
              exact o.lt
    · have ex : x.1 ≠ d.2.1 := fun z => by rw [z, setN_at] at hr; omega
      rw [setN_ne ex] at hr
      show gt (s.1.set d.2.1 (s.1.getD d.1 0 + d.2.2)) x.1 + x.2.2 ≤ gt (s.1.set d.2.1 (s.1.getD d.1 0 + d.2.2)) x.2.1
      rw [gs x.1, if_neg ex]
      have := g.suf x (List.mem_cons_of_mem _ hx) hr
      have := up x.2.1
      omega
    · have ex : x.1 ≠ d.2.1 := fun z => by rw [z, setN_at] at hr; omega
      rw [setN_ne ex] at hr
      show gt (s.1.set d.2.1 (s.1.getD d.1 0 + d.2.2)) x.1 + x.2.2 ≤ gt (s.1.set d.2.1 (s.1.getD d.1 0 + d.2.2)) x.2.1
      rw [gs x.1, if_neg ex]
      rcases List.mem_append.mp hx with hx | hx
      · have := g.pre x hx hr
        have := up x.2.1
        omega
      · rcases List.mem_singleton.mp hx with rfl
        rw [gs, if_pos rfl]
        exact Int.le_refl _
    · by_cases ev : v = d.2.1
      · subst ev; rw [setN_at]; exact Nat.le_refl _
      · rw [setN_ne ev]; exact g.rp v
    · by_cases ev : v = d.2.1
      · subst ev; rw [setN_at]; exact Nat.le_refl _
      · rw [setN_ne ev]; have := g.tc v; omega
    · by_cases ea : a = d.2.1
      · by_cases eb : b = d.2.1
        · rw [ea, eb]
        · subst ea
          rw [setN_at, setN_ne eb] at hab
          have := g.tc b
          omega
      · by_cases eb : b = d.2.1
        · subst eb
          rw [setN_at, setN_ne ea] at hab
          have := g.tc a
          omega
        · rw [setN_ne ea] at ha hab
          rw [setN_ne eb] at hab
          exact g.inj a b ha hab
    · by_cases ev : v = d.2.1
      · subst ev; rw [setN_at]
      · rw [setN_ne ev]; exact hv
  · have e : rel1 s d = s := by unfold rel1; rw [if_neg h]
    rw [e]
    refine ⟨R, T, ⟨g.lv, g.lo, g.or, fun x hx => g.suf x (List.mem_cons_of_mem _ hx), fun x hx hr => ?_, g.rp, fun v => Nat.le_succ_of_le (g.tc v), g.inj⟩, .inl rfl, fun v h => h⟩
    rcases List.mem_append.mp hx with hx | hx
    · exact g.pre x hx hr
    · rcases List.mem_singleton.mp hx with rfl
      exact Int.not_lt.mp h
theorem gh_fold {n : Nat} {ds : List Dm} (hd : dmOk n ds) (hne : ∀ d ∈ ds, d.1 ≠ d.2.1) {p : Nat} : ∀ (suf pre : List Dm) (c : Nat) (s : Rs) (R T : Nat → Nat), (∀ d ∈ suf, d ∈ ds) → Gh n ds p c pre suf s R T → (s.2.2 = .non ∨ ∃ v : Nat, v < n ∧ s.2.2 = .int v ∧ R v = p) →
    ∃ c' R' T', Gh n ds p c' (pre ++ suf) [] (suf.foldl rel1 s) R' T' ∧ ((suf.foldl rel1 s).2.2 = .non ∨ ∃ v : Nat, v < n ∧ (suf.foldl rel1 s).2.2 = .int v ∧ R' v = p)
  | [], pre, c, s, R, T, _, g, h => ⟨c, R, T, by rw [List.append_nil]; exact g, h⟩
  | d :: suf, pre, c, s, R, T, hs, g, h => by
    obtain ⟨R', T', g', h', k'⟩ := gh_step hd hne (hs d List.mem_cons_self) g
    have := gh_fold hd hne suf (pre ++ [d]) (c + 1) (rel1 s d) R' T' (fun x hx => hs x (List.mem_cons_of_mem _ hx)) g' (by
      rcases h' with h' | h'
      · rw [h']
        rcases h with h | ⟨v, hv, a, b⟩
        · exact .inl h
        · exact .inr ⟨v, hv, a, k' v b⟩
      · exact .inr h')
    rw [List.append_assoc] at this
    exact this
/-- what stands at the end, where a thing was raised in the last turn -/
theorem gh_rounds {n : Nat} {ds : List Dm} (hd : dmOk n ds) (hne : ∀ d ∈ ds, d.1 ≠ d.2.1) : ∀ (k : Nat) (p c : Nat) (s : Rs) (R T : Nat → Nat), Gh n ds (p + 1) c [] ds s R T → (s.2.2 = .non ∨ ∃ v : Nat, v < n ∧ s.2.2 = .int v ∧ R v = p) → (∀ v, R v ≤ p) →
    (rounds ds k s.1 s.2.1 s.2.2).2.2 ≠ .non → ∃ c' R' T', Gh n ds (p + k + 1) c' [] ds (rounds ds k s.1 s.2.1 s.2.2) R' T' ∧ ∃ v : Nat, v < n ∧ (rounds ds k s.1 s.2.1 s.2.2).2.2 = .int v ∧ R' v = p + k
  | 0, p, c, s, R, T, g, h, hp, e => by
    rw [rounds] at e ⊢
    rcases h with h | h
    · exact absurd h e
    · exact ⟨c, R, T, g, h⟩
  | k + 1, p, c, s, R, T, g, h, hp, e => by
    rw [rounds] at e ⊢
    obtain ⟨c', R', T', g', h'⟩ := gh_fold hd hne ds [] c (s.1, s.2.1, .non) R T (fun _ h => h) ⟨g.lv, g.lo, fun v hv => (g.or v hv).imp id fun ⟨a, u, b, o⟩ => ⟨a, u, b, o.at', o.mem, o.rr, o.le, o.lt⟩, g.suf, g.pre, g.rp, g.tc, g.inj⟩ (.inl rfl)
    change Gh n ds (p + 1) c' ([] ++ ds) [] (run1 ds s.1 s.2.1) R' T' at g'
    by_cases z : (run1 ds s.1 s.2.1).2.2 = .non
    · rw [if_pos z] at e
      exact absurd rfl e
    · rw [if_neg z] at e ⊢
      have g2 : Gh n ds (p + 1 + 1) c' [] ds (run1 ds s.1 s.2.1) R' T' := ⟨g'.lv, g'.lo, g'.or, fun d hd' hr => g'.pre d (by simpa using hd') (by omega), fun _ h => (nomatch h), fun v => Nat.le_succ_of_le (g'.rp v), g'.tc, g'.inj⟩
      have := gh_rounds hd hne k (p + 1) c' (run1 ds s.1 s.2.1) R' T' g2 h' g'.rp e
      rw [show p + (k + 1) = p + 1 + k by omega]
      exact this
theorem gh_end {n : Nat} {ds : List Dm} (hd : dmOk n ds) (hne : ∀ d ∈ ds, d.1 ≠ d.2.1) (e : (rounds ds n (List.replicate n 0) (List.replicate n .non) .non).2.2 ≠ .non) :
    ∃ c R T, Gh n ds (n + 1) c [] ds (rounds ds n (List.replicate n 0) (List.replicate n .non) .non) R T ∧ ∃ v : Nat, v < n ∧ (rounds ds n (List.replicate n 0) (List.replicate n .non) .non).2.2 = .int v ∧ R v = n := by
  have g : Gh n ds (0 + 1) 0 [] ds (List.replicate n 0, List.replicate n .non, .non) (fun _ => 0) (fun _ => 0) := ⟨List.length_replicate, List.length_replicate, fun v hv => .inl ⟨by rw [List.getElem?_replicate, if_pos hv], rfl⟩, fun _ _ h => absurd h (by omega), fun _ h => (nomatch h), fun _ => Nat.zero_le _, fun _ => Nat.le_refl _, fun _ _ h => absurd h (by decide)⟩
  have := gh_rounds hd hne n 0 0 _ _ _ g (.inl rfl) (fun _ => Nat.le_refl _) e
  rw [Nat.zero_add] at this
  exact this
/-! walking back -/
/-- the origins, as a function: where there is none, the thing itself -/
noncomputable def bk (orgs : List V) (v : Nat) : Nat := match orgs[v]? with | some (.int u) => u.toNat | _ => v
noncomputable def bks (orgs : List V) : Nat → Nat → Nat
  | 0, v => v
  | k + 1, v => bk orgs (bks orgs k v)
theorem bks_add (orgs : List V) (a v : Nat) : ∀ b, bks orgs (a + b) v = bks orgs b (bks orgs a v)
  | 0 => rfl
  | b + 1 => by show bk orgs (bks orgs (a + b) v) = bk orgs _; rw [bks_add orgs a v b]
theorem bk_of {orgs : List V} {v u : Nat} (h : orgs[v]? = some (.int (u : Nat))) : bk orgs v = u := by
  unfold bk; rw [h]; exact Int.toNat_natCast u
/-- pigeons -/
theorem pigeon : ∀ (n : Nat) (f : Nat → Nat), (∀ i, i ≤ n → f i < n) → ∃ i j, i < j ∧ j ≤ n ∧ f i = f j := by
  intro n f h
  by_cases z : ∃ i j, i < j ∧ j ≤ n ∧ f i = f j
  · exact z
  · exfalso
    have nd : ((List.range (n + 1)).map f).Nodup := by
      unfold List.Nodup
      rw [List.pairwise_map]
      refine List.Pairwise.imp_of_mem ?_ (List.pairwise_lt_range (n := n + 1))
      intro a b ha hb hab e
      exact z ⟨a, b, hab, by have := List.mem_range.mp hb; omega, e⟩
    have sub : ((List.range (n + 1)).map f) ⊆ List.range n := fun x hx => by
      obtain ⟨i, hi, rfl⟩ := List.mem_map.mp hx
      exact List.mem_range.mpr (h i (by have := List.mem_range.mp hi; omega))
    have := nd.length_le_of_subset sub
    rw [List.length_map, List.length_range, List.length_range] at this
    omega
/-- the round behind a thing that was raised in the last turn: all that is asked of it -/
structure Rnd (n : Nat) (ds : List Dm) (orgs : List V) (s c : Nat) : Prop where
  c2 : 2 ≤ c
  cn : c ≤ n
  ret : bks orgs c s = s
  first : ∀ i, 1 ≤ i → i < c → bks orgs i s ≠ s
  org : ∀ i, ∃ b, orgs[bks orgs i s]? = some (.int (bks orgs (i + 1) s : Nat)) ∧ (bks orgs (i + 1) s, bks orgs i s, b) ∈ ds
  dist : ∀ i j, i < j → j < c → bks orgs i s ≠ bks orgs j s
theorem rnd_of {n : Nat} {ds : List Dm} (hd : dmOk n ds) (hne : ∀ d ∈ ds, d.1 ≠ d.2.1) (e : (rounds ds n (List.replicate n 0) (List.replicate n .non) .non).2.2 ≠ .non) {orgs : List V} (ho : orgs = (rounds ds n (List.replicate n 0) (List.replicate n .non) .non).2.1) :
    ∃ r : Nat, r < n ∧ (rounds ds n (List.replicate n 0) (List.replicate n .non) .non).2.2 = .int r ∧ (∀ i, orgs[bks orgs i r]? = some (.int (bks orgs (i + 1) r : Nat))) ∧ (∃ c, Rnd n ds orgs (bks orgs n r) c) ∧
      ∃ (vals : List Int) (T : Nat → Nat), ∀ i, ∃ b, (bks orgs (i + 1) r, bks orgs i r, b) ∈ ds ∧ gt vals (bks orgs i r) ≤ gt vals (bks orgs (i + 1) r) + b ∧ (T (bks orgs i r) < T (bks orgs (i + 1) r) → gt vals (bks orgs i r) < gt vals (bks orgs (i + 1) r) + b) ∧ (T (bks orgs i r) = T (bks orgs (i + 1) r) → bks orgs i r = bks orgs (i + 1) r) := by
  obtain ⟨c, R, T, g, r, hr, er, eR⟩ := gh_end hd hne e
  have st : ∀ v, v < n → 1 ≤ R v → ∃ b, Orig ds (rounds ds n (List.replicate n 0) (List.replicate n .non) .non) R T v (bk orgs v) b ∧ 1 ≤ T v ∧ bk orgs v < n := fun v hv h1 => by
    rcases g.or v hv with ⟨_, h⟩ | ⟨t1, u, b, o⟩
    · omega
    · have : bk orgs v = u := bk_of (by rw [ho]; exact o.at')
      rw [this]
      exact ⟨b, o, t1, (hd _ o.mem).1⟩
  have ch : ∀ i, i ≤ n → bks orgs i r < n ∧ n ≤ R (bks orgs i r) + i := by
    intro i
    induction i with
    | zero => intro _; exact ⟨hr, by show n ≤ R r + 0; omega⟩
    | succ i ih =>
      intro hi
      obtain ⟨a, b⟩ := ih (by omega)
      obtain ⟨w, o, _, l⟩ := st _ a (by omega)
      refine ⟨l, ?_⟩
      show n ≤ R (bk orgs (bks orgs i r)) + (i + 1)
      have := o.rr
      omega
  obtain ⟨i, j, hij, hj, ef⟩ := pigeon n (fun i => bks orgs i r) fun i hi => (ch i hi).1
  have ef' : bks orgs i r = bks orgs j r := ef
  -- each later one stands among those of the first turns
  have back : ∀ m, ∃ m', m' < j ∧ bks orgs m r = bks orgs m' r := by
    intro m
    induction m with
    | zero => exact ⟨0, by omega, rfl⟩
    | succ m ih =>
      obtain ⟨m', h1, h2⟩ := ih
      have e2 : bks orgs (m + 1) r = bks orgs (m' + 1) r := by show bk orgs _ = bk orgs _; rw [h2]
      by_cases z : m' + 1 < j
      · exact ⟨m' + 1, z, e2⟩
      · have : m' + 1 = j := by omega
        exact ⟨i, hij, by rw [e2, this, ef']⟩
  have all : ∀ m, bks orgs m r < n ∧ ∃ b, Orig ds (rounds ds n (List.replicate n 0) (List.replicate n .non) .non) R T (bks orgs m r) (bks orgs (m + 1) r) b ∧ 1 ≤ T (bks orgs m r) := fun m => by
    obtain ⟨m', h1, h2⟩ := back m
    obtain ⟨a, b⟩ := ch m' (by omega)
    have e2 : bks orgs (m + 1) r = bk orgs (bks orgs m' r) := by show bk orgs _ = _; rw [h2]
    rw [e2, h2]
    obtain ⟨w, o, t1, _⟩ := st _ a (by omega)
    exact ⟨a, w, o, t1⟩
  have at' : ∀ m, orgs[bks orgs m r]? = some (.int (bks orgs (m + 1) r : Nat)) := fun m => by
    obtain ⟨_, b, o, _⟩ := all m
    have := o.at'
    rw [← ho] at this
    exact this
  -- the least turn
  have per : bks orgs (j - i) (bks orgs n r) = bks orgs n r := by
    rw [← bks_add, show n + (j - i) = j + (n - i) by omega, bks_add, ← ef', ← bks_add, show i + (n - i) = n by omega]
  have ex : ∃ c, 1 ≤ c ∧ c ≤ n ∧ bks orgs c (bks orgs n r) = bks orgs n r ∧ ∀ k, 1 ≤ k → k < c → bks orgs k (bks orgs n r) ≠ bks orgs n r := by
    have : ∀ m, 1 ≤ m → m ≤ n → bks orgs m (bks orgs n r) = bks orgs n r → ∃ c, 1 ≤ c ∧ c ≤ n ∧ bks orgs c (bks orgs n r) = bks orgs n r ∧ ∀ k, 1 ≤ k → k < c → bks orgs k (bks orgs n r) ≠ bks orgs n r := by
      intro m
      induction m using Nat.strongRecOn with
      | _ m ih =>
        intro h1 h2 h3
        by_cases z : ∃ k, 1 ≤ k ∧ k < m ∧ bks orgs k (bks orgs n r) = bks orgs n r
        · obtain ⟨k, k1, k2, k3⟩ := z
          exact ih k k2 k1 (by omega) k3
        · exact ⟨m, h1, h2, h3, fun k k1 k2 k3 => z ⟨k, k1, k2, k3⟩⟩
    exact this (j - i) (by omega) (by omega) per
  obtain ⟨c0, c1, cn, cr, cf⟩ := ex
  refine ⟨r, hr, er, at', ⟨c0, ⟨?_, cn, cr, cf, fun m => ?_, fun a b hab hb z => ?_⟩⟩, (rounds ds n (List.replicate n 0) (List.replicate n .non) .non).1, T, fun m => ?_⟩
  · refine Nat.le_of_not_lt fun z => ?_
    have e1 : c0 = 1 := by omega
    subst e1
    obtain ⟨_, b, o, _⟩ := all n
    have := hne _ o.mem
    exact this cr
  · rw [← bks_add, ← bks_add]
    obtain ⟨_, b, o, _⟩ := all (n + m)
    exact ⟨b, at' (n + m), o.mem⟩
  · -- from there on it is the same
    have e1 : bks orgs (c0 - b) (bks orgs a (bks orgs n r)) = bks orgs (c0 - b) (bks orgs b (bks orgs n r)) := by rw [z]
    have e2 : bks orgs (a + (c0 - b)) (bks orgs n r) = bks orgs (b + (c0 - b)) (bks orgs n r) := by rw [bks_add, bks_add]; exact e1
    rw [show b + (c0 - b) = c0 by omega, cr] at e2
    exact cf (a + (c0 - b)) (by omega) (by omega) e2
  · obtain ⟨_, b, o, t1⟩ := all m
    exact ⟨b, o.mem, o.le, o.lt, fun z => g.inj _ _ t1 z⟩
end My

set_option Elab.async false
set_option linter.all false
set_option maxRecDepth 100000
set_option maxHeartbeats 4000000
namespace My
open PySem L2
theorem mem_dm {n : Nat} {ps : List (Int × Int)} {st : Int} {d : Dm} : d ∈ dmAll n ps st n ↔ d.1 < n ∧ d.2.1 < n ∧ d.1 ≠ d.2.1 ∧ dem ps st d.1 d.2.1 = some d.2.2 := by
  unfold dmAll dmRow
  rw [List.mem_flatMap]
  constructor
  · rintro ⟨i, hi, h⟩
    obtain ⟨j, hj, h⟩ := List.mem_flatMap.mp h
    unfold dmI at h
    split at h
    · cases h
    · rename_i hne
      split at h
      · rename_i k e
        rcases List.mem_singleton.mp h with rfl
        exact ⟨List.mem_range.mp hi, List.mem_range.mp hj, hne, e⟩
      · cases h
  · rintro ⟨hi, hj, hne, e⟩
    refine ⟨d.1, List.mem_range.mpr hi, List.mem_flatMap.mpr ⟨d.2.1, List.mem_range.mpr hj, ?_⟩⟩
    unfold dmI
    rw [if_neg hne, e]
    exact List.mem_singleton.mpr rfl
theorem dm_ne {n : Nat} {ps : List (Int × Int)} {st : Int} : ∀ d ∈ dmAll n ps st n, d.1 ≠ d.2.1 := fun d h => (mem_dm.mp h).2.2.1
/-! the round as a list -/
noncomputable def rnL (orgs : List V) (s c : Nat) : List Nat := ((List.range c).map fun i => bks orgs i s).reverse
theorem rnL_len (orgs : List V) (s c : Nat) : (rnL orgs s c).length = c := by simp [rnL]
theorem rnL_at {orgs : List V} {s c i : Nat} (h : i < c) : (rnL orgs s c)[i]? = some (bks orgs (c - 1 - i) s) := by
  unfold rnL
  rw [List.getElem?_reverse (by simpa using h), List.getElem?_map, List.length_map, List.length_range, List.getElem?_range (by omega)]
  rfl
structure RB (n : Nat) (ds : List Dm) (orgs : List V) (r c : Nat) : Prop where
  lo : orgs.length = n
  rn : r < n
  at' : ∀ i, orgs[bks orgs i r]? = some (.int (bks orgs (i + 1) r : Nat))
  rnd : Rnd n ds orgs (bks orgs n r) c
  val : ∃ (vals : List Int) (T : Nat → Nat), ∀ i, ∃ b, (bks orgs (i + 1) r, bks orgs i r, b) ∈ ds ∧ gt vals (bks orgs i r) ≤ gt vals (bks orgs (i + 1) r) + b ∧ (T (bks orgs i r) < T (bks orgs (i + 1) r) → gt vals (bks orgs i r) < gt vals (bks orgs (i + 1) r) + b) ∧ (T (bks orgs i r) = T (bks orgs (i + 1) r) → bks orgs i r = bks orgs (i + 1) r)
noncomputable def IsRnd (n : Nat) (ds : List Dm) (th : List Nat) : Prop := ∃ orgs r c, RB n ds orgs r c ∧ th = rnL orgs (bks orgs n r) c
theorem isRnd_len {n : Nat} {ds : List Dm} {th : List Nat} (h : IsRnd n ds th) : 2 ≤ th.length ∧ th.length ≤ n := by
  obtain ⟨orgs, r, c, R, rfl⟩ := h
  rw [rnL_len]
  exact ⟨R.rnd.c2, R.rnd.cn⟩
theorem isRnd_next {n : Nat} {ds : List Dm} {th : List Nat} (h : IsRnd n ds th) {i : Nat} (hi : i < th.length) : ∃ a b k, th[i]? = some a ∧ th[(i + 1) % th.length]? = some b ∧ (a, b, k) ∈ ds := by
  obtain ⟨orgs, r, c, R, rfl⟩ := h
  rw [rnL_len] at hi ⊢
  by_cases z : i + 1 < c
  · rw [Nat.mod_eq_of_lt z, rnL_at hi, rnL_at z]
    obtain ⟨k, _, m⟩ := R.rnd.org (c - 1 - (i + 1))
    rw [show c - 1 - (i + 1) + 1 = c - 1 - i by omega] at m
    exact ⟨_, _, k, rfl, rfl, m⟩
  · have e : i + 1 = c := by omega
    rw [e, Nat.mod_self, rnL_at hi, rnL_at (by omega)]
    obtain ⟨k, _, m⟩ := R.rnd.org (c - 1)
    rw [show c - 1 + 1 = c by omega, R.rnd.ret] at m
    rw [show c - 1 - i = 0 by omega]
    exact ⟨_, _, k, rfl, rfl, m⟩
noncomputable def nI (th : List Nat) : List V := th.map fun (i : Nat) => V.int (i : Int)
section
variable {P : Program} {w : World} {K : PySem.W.Frag} {mg : Str → Option Value} {base : Heap} {t : Ad}
noncomputable def sp_behind : Sp := fun vs H Q _ => ∃ (o : Addr) (n : Nat) (ds : List Dm) (orgs : List V) (r c : Nat), vs = [.ref o, .int (r : Nat)] ∧ n ≤ 8 ∧ H o = some (.lst orgs) ∧ RB n ds orgs r c ∧
  ∀ l H', Same H H' → H l = none → H' l = some (.lst (nI (rnL orgs (bks orgs n r) c))) → Q (.ref l) H'
theorem ok_round_behind (T : Txt K mg t) : FnOk P w K mg base CX0 1 t.a_round_behind t.d_round_behind ["origins", "raised"] sp_behind := by
  refine T.F_round_behind.ok sc_round_behind (fun vs H Q E h => ?_) (fun cdv A outer s H vs Q E hr h => ?_)
  · obtain ⟨o, n, ds, orgs, r, c, rfl, _⟩ := h
    rfl
  · obtain ⟨o, n, ds, orgs, r, c, rfl, n8, ho, R, q⟩ := h
    refine ⟨_, (pss_cons (ps_set (i := 2) sc_round_behind.nd rfl (Or.inl rfl) (pv 1))
      (pss_cons (ps_for PassesOwn.never rfl (pi_range1 rfl T.n_range (pa_cons (pe_callB (k_len K) (by rfl) T.n_len bt_len (pa_cons (pv 0) pa_nil)) pa_nil)) (pg_name (i := 3) sc_round_behind.nd rfl (Or.inl rfl)) (pss_one (ps_set (i := 2) sc_round_behind.nd rfl (Or.inl rfl) (pe_ix (k_ix K) (pv 0) (pv 2) (fun _ _ => rfl)))))
      (pss_cons (ps_set (i := 4) sc_round_behind.nd rfl (Or.inl rfl) (pe_lst (pa_cons (pv 2) pa_nil)))
      (pss_cons (ps_set (i := 5) sc_round_behind.nd rfl (Or.inl rfl) (pe_ix (k_ix K) (pv 0) (pv 2) (fun _ _ => rfl)))
      (pss_cons (ps_while PassesOwn.never (pt_cmpR (op_neD hr.units) (pv 5) (pv 2) (nomark _)) (pss_cons (ps_expr (k_bm K PySem.F.plainAttrs_list PySem.F.slot_list_append PySem.F.type_list_append mt_append (pv 4) (pa_cons (pv 5) pa_nil)))
      (pss_one (ps_set (i := 5) sc_round_behind.nd rfl (Or.inl rfl) (pe_ix (k_ix K) (pv 0) (pv 5) (fun _ _ => rfl))))))
      (pss_one (ps_ret (k_lrev K rfl T.n_list rfl T.n_reversed (pa_cons (pv 4) pa_nil))))))))), ?_⟩
    have lo := R.lo
    walk_at "rd"
    refine ⟨_, rfl, by omega, by omega, ?_⟩
    rw [R.lo, Int.toNat_natCast]
    refine fp_range (fun i σ H' => (∃ v3 v4 v5, σ = [some (.ref o), some (.int r), some (.int (bks orgs i r : Nat)), v3, v4, v5]) ∧ H' = H) ⟨⟨_, _, _, rfl⟩, rfl⟩ ?_ ?_
    · rintro i σ H1 hi ⟨⟨v3, v4, v5, rfl⟩, rfl⟩
      walk_at "rd"
      refine rd_ixL ho (atI_of rfl (R.at' i)) ?_
      walk_at "rd"
      exact ⟨⟨_, _, _, rfl⟩, rfl⟩
    · rintro σ H1 ⟨⟨v3, v4, v5, rfl⟩, rfl⟩
      walk_at "rd"
      refine ⟨by show 1 ≤ sizeLine; decide, fun l hl => ?_⟩
      have s1 := Same.upd (o := .lst [V.int (bks orgs n r : Nat)]) hl
      walk_at "rd"
      generalize hs0 : bks orgs n r = s0 at *
      have at0 : ∀ i, orgs[bks orgs i s0]? = some (.int (bks orgs (i + 1) s0 : Nat)) := fun i => by
        have := R.at' (n + i)
        rw [bks_add, show n + i + 1 = n + (i + 1) by omega, bks_add, hs0] at this
        exact this
      refine rd_ixL (s1 _ _ ho) (atI_of rfl (at0 0)) ?_
      have R' := R.rnd
      rw [hs0] at R'
      have c2 := R'.c2
      have cn := R'.cn
      walk_at "rd"
      refine ⟨fun m σ H' => ∃ k, m = c - 1 - k ∧ k < c ∧ (∃ v1 v3, σ = [some (.ref o), v1, some (.int (s0 : Nat)), v3, some (.ref l), some (.int (bks orgs (k + 1) s0 : Nat))]) ∧ Same H1 H' ∧ H' l = some (.lst (nI ((List.range (k + 1)).map fun i => bks orgs i s0))), ⟨_, 0, rfl, by omega, ⟨_, _, rfl⟩, s1, upd_same⟩, ?_⟩
      rintro m σ H2 ⟨k, rfl, hk, ⟨v1, v3, rfl⟩, s2, hl2⟩
      walk_at "rd"
      have ln : (nI ((List.range (k + 1)).map fun i => bks orgs i s0)).length = k + 1 := by simp [nI]
      refine ifB (fun g => ?_) (fun g => ?_)
      · have hne : bks orgs (k + 1) s0 ≠ s0 := fun z => by rw [z] at g; simp at g
        have hk1 : k + 1 < c := by
          refine Nat.lt_of_le_of_ne hk fun z => hne ?_
          have := R'.ret
          rw [← z] at this
          exact this
        refine ⟨fun σ' H' => ∃ m', m' < c - 1 - k ∧ ∃ k, m' = c - 1 - k ∧ k < c ∧ (∃ v1 v3, σ' = [some (.ref o), v1, some (.int (s0 : Nat)), v3, some (.ref l), some (.int (bks orgs (k + 1) s0 : Nat))]) ∧ Same H1 H' ∧ H' l = some (.lst (nI ((List.range (k + 1)).map fun i => bks orgs i s0))), fun σ' H' h => h, ?_⟩
        walk_at "rd"
        refine ⟨tyV_lst hl2, ?_⟩
        walk_at "rd"
        refine rd_append hl2 (small1000 (by omega)) ?_
        have nol : o ≠ l := ne_of_none ho hl
        walk_at "rd"
        refine rd_ixL (by rw [upd_ne nol]; exact s2 _ _ ho) (atI_of rfl (at0 (k + 1))) ?_
        walk_at "rd"
        refine ⟨c - 1 - (k + 1), by omega, k + 1, rfl, hk1, ⟨_, _, rfl⟩, fun b u e => ?_, ?_⟩
        · rw [upd_ne (ne_of_none e hl)]
          exact s2 _ _ e
        · rw [upd_same, List.range_succ (n := k + 1)]
          simp [nI]
      · have hz : bks orgs (k + 1) s0 = s0 := by
          have : ((bks orgs (k + 1) s0 : Nat) : Int) = (s0 : Int) := by simpa using g
          omega
        have hk1 : k + 1 = c := by
          refine Nat.le_antisymm hk (Nat.le_of_not_lt fun z => R'.first (k + 1) (by omega) z hz)
        walk_at "rd"
        refine rd_lrev ?_
        walk_at "rd"
        refine ⟨l, _, rfl, SqL.of hl2, by omega, fun p hp => ?_⟩
        have s3 := Same.upd (o := .lst (nI ((List.range (k + 1)).map fun i => bks orgs i s0)).reverse) hp
        refine q p _ (s2.trans s3) (s2.free hp) ?_
        rw [upd_same, hk1]
        unfold rnL nI
        rw [List.map_reverse]
noncomputable def sp_things : Sp := fun vs H Q _ => ∃ l ds n xs, vs = [.int (n : Nat), .ref l] ∧ n ≤ 8 ∧ H l = some (.lst xs) ∧ IsAll H xs (ds.map trD) ∧ dmOk n ds ∧ (∀ d ∈ ds, d.1 ≠ d.2.1) ∧
  ∀ H', Same H H' → (lv n ds ≠ none → Q .non H') ∧ ∀ p th, lv n ds = none → IsRnd n ds th → H p = none → H' p = some (.lst (nI th)) → Q (.ref p) H'
theorem ok_things_in_round (T : Txt K mg t) : FnOk P w K mg base CX0 3 t.a_things_in_round t.d_things_in_round ["many", "demands"] sp_things := by
  refine T.F_things_in_round.ok sc_things_in_round (fun vs H Q E h => ?_) (fun cdv A outer s H vs Q E hr h => ?_)
  · obtain ⟨l, ds, n, xs, rfl, _⟩ := h
    rfl
  · obtain ⟨l, ds, n, xs, rfl, hn, hl, hxs, hds, hne, q⟩ := h
    refine ⟨_, (pss_cons (ps_set (i := 2) sc_things_in_round.nd rfl (Or.inl rfl) (pe_op op_rep (pe_lst (pa_cons pe_non pa_nil)) (pv 0)))
      (pss_cons (ps_set (i := 3) sc_things_in_round.nd rfl (Or.inl rfl) (pe_call (ok_raise_all T) (hr.mono (by decide)) rfl T.m_raise_all T.F_raise_all.kp T.b_raise_all .nil pass0 (pa_cons (pv 1) (pa_cons (pe_op op_rep (pe_lst (pa_cons pe_int pa_nil)) (pv 0)) (pa_cons (pv 2) pa_nil)))))
      (pss_cons (ps_if (pt_cmpR o_isN (pv 3) pe_non (nomark _)) (pss_one (ps_ret pe_non)) pss_nil)
      (pss_one (ps_ret (pe_call (ok_round_behind T) (hr.mono (by decide)) rfl T.m_round_behind T.F_round_behind.kp T.b_round_behind .nil pass0 (pa_cons (pv 2) (pa_cons (pv 3) pa_nil)))))))), ?_⟩
    walk_at "rd"
    refine ⟨by show 1 ≤ sizeLine; decide, fun p1 hp1 => ?_⟩
    have s1 := Same.upd (o := .lst [V.non]) hp1
    walk_at "rd"
    refine rd_rep upd_same (by omega) fun o ho => ?_
    have s2 := s1.trans (Same.upd (o := .lst (List.replicate n V.non)) ho)
    walk_at "rd"
    refine ⟨by show 1 ≤ sizeLine; decide, fun p2 hp2 => ?_⟩
    have s3 := s2.trans (Same.upd (o := .lst [V.int 0]) hp2)
    walk_at "rd"
    refine rd_rep upd_same (by omega) fun v hv => ?_
    walk_at "rd"
    generalize hG : upd (upd (upd (upd H p1 (.lst [V.non])) o (.lst (List.replicate n V.non))) p2 (.lst [V.int 0])) v (.lst (List.replicate n (V.int 0))) = G at *
    have s4 : Same H G := by rw [← hG]; exact s3.trans (Same.upd hv)
    have nop : o ≠ p2 := ne_of_none upd_same hp2
    have nov : o ≠ v := by
      refine ne_of_none (o := .lst (List.replicate n V.non)) ?_ hv
      rw [upd_ne nop, upd_same]
    have go : G o = some (.lst (List.replicate n V.non)) := by rw [← hG, upd_ne nov, upd_ne nop, upd_same]
    have gv : G v = some (.lst ((List.replicate n (0 : Int)).map V.int)) := by rw [← hG, upd_same, rep_int]
    have nlo : l ≠ o := by
      intro z
      subst z
      rw [s1 _ _ hl] at ho
      cases ho
    have nlv : l ≠ v := by
      intro z
      subst z
      rw [s3 _ _ hl] at hv
      cases hv
    refine ⟨l, v, o, ds, _, _, n, xs, rfl, hn, s4 _ _ hl, hxs.same s4, ⟨gv, go, List.length_replicate, List.length_replicate⟩, nlv, nlo, Ne.symm nov, hds, fun H' s5 V5 => ?_⟩
    have sH : Same H H' := fun b u e => by
      refine s5 b u (s4 b u e) ?_ ?_
      · intro z; subst z; rw [s3 _ _ e] at hv; cases hv
      · intro z; subst z; rw [s1 _ _ e] at ho; cases ho
    have ho5 := V5.ho
    rcases (show (rounds ds n (List.replicate n 0) (List.replicate n .non) .non).2.2 = .non ∨ ¬ (rounds ds n (List.replicate n 0) (List.replicate n .non) .non).2.2 = .non from Classical.em _) with hz | hz
    · rw [hz]
      walk_at "rd"
      exact (q H' sH).1 (by unfold lv; rw [if_pos hz]; simp)
    · have hlv : lv n ds = none := by unfold lv; rw [if_neg hz]
      obtain ⟨r, hr', er, at', ⟨c, R⟩, vals, T', hval⟩ := rnd_of hds hne hz rfl
      rw [er]
      walk_at "rd"
      refine ⟨o, n, ds, _, r, c, rfl, hn, ho5, ⟨V5.lo, hr', at', R, vals, T', hval⟩, fun p H2 s6 hp e => ?_⟩
      exact (q H2 (sH.trans s6)).2 p _ hlv ⟨_, r, c, ⟨V5.lo, hr', at', R, vals, T', hval⟩, rfl⟩ (sH.free hp) e
end
end My

set_option Elab.async false
set_option linter.all false
set_option maxRecDepth 100000
set_option maxHeartbeats 1000000
namespace My
open PySem L2
/-! the round comes above nothing -/
noncomputable def sumN (K : Nat → Int) : Nat → Int
  | 0 => 0
  | m + 1 => sumN K m + K m
theorem tele {f K : Nat → Int} : ∀ m, (∀ j, j < m → f j ≤ f (j + 1) + K j) → f 0 - f m ≤ sumN K m ∧ ((∃ j, j < m ∧ f j < f (j + 1) + K j) → f 0 - f m < sumN K m)
  | 0, _ => ⟨by simp [sumN], fun ⟨j, h, _⟩ => absurd h (Nat.not_lt_zero _)⟩
  | m + 1, h => by
    obtain ⟨a, b⟩ := tele m fun j hj => h j (by omega)
    have hm := h m (by omega)
    refine ⟨by rw [sumN]; omega, ?_⟩
    rintro ⟨j, hj, hs⟩
    rw [sumN]
    by_cases z : j < m
    · have := b ⟨j, z, hs⟩
      omega
    · have e : j = m := by omega
      subst e
      omega
theorem sumN_list (K : Nat → Int) : ∀ m, ((List.range m).map K).sum = sumN K m
  | 0 => rfl
  | m + 1 => by rw [List.range_succ, List.map_append, List.sum_append, sumN_list K m, sumN]; simp
theorem sum_rev : ∀ l : List Int, l.reverse.sum = l.sum
  | [] => rfl
  | a :: l => by rw [List.reverse_cons, List.sum_append, sum_rev l, List.sum_cons]; simp; omega
theorem isRnd_nd {n : Nat} {ds : List Dm} {th : List Nat} (h : IsRnd n ds th) : th.Nodup := by
  obtain ⟨orgs, r, c, R, rfl⟩ := h
  unfold rnL
  unfold List.Nodup
  rw [List.pairwise_reverse, List.pairwise_map]
  refine List.Pairwise.imp_of_mem ?_ (List.pairwise_lt_range (n := c))
  intro a b ha hb hab z
  exact R.rnd.dist a b hab (List.mem_range.mp hb) z.symm
theorem isRnd_in {n : Nat} {ds : List Dm} (hd : dmOk n ds) {th : List Nat} (h : IsRnd n ds th) {a : Nat} (ha : a ∈ th) : a < n := by
  obtain ⟨i, hi⟩ := List.getElem?_of_mem ha
  obtain ⟨a', b, k, h1, h2, h3⟩ := isRnd_next h (List.getElem?_eq_some_iff.mp hi).1
  rw [hi] at h1
  cases h1
  exact (hd _ h3).1
/-- what the demands come to, by whatever demands no less -/
theorem isRnd_sum {n : Nat} {ds : List Dm} (hne : ∀ d ∈ ds, d.1 ≠ d.2.1) {th : List Nat} (h : IsRnd n ds th) {K : Nat → Int}
    (hK : ∀ (i a b : Nat) (k : Int), i < th.length → th[i]? = some a → th[(i + 1) % th.length]? = some b → (a, b, k) ∈ ds → k ≤ K i) : 0 < ((List.range th.length).map K).sum := by
  obtain ⟨orgs, r, c, R, rfl⟩ := h
  rw [rnL_len] at hK ⊢
  have c2 := R.rnd.c2
  obtain ⟨vals, T, hv⟩ := R.val
  have X : ∀ j, bks orgs j (bks orgs n r) = bks orgs (n + j) r := fun j => (bks_add orgs n r j).symm
  -- the step from x (j + 1) to x j stands at i in the list
  let J : Nat → Nat := fun j => if j + 1 < c then c - 2 - j else c - 1
  have st : ∀ j, j < c → ∃ b, (bks orgs (n + (j + 1)) r, bks orgs (n + j) r, b) ∈ ds ∧ b ≤ K (J j) ∧ gt vals (bks orgs (n + j) r) ≤ gt vals (bks orgs (n + (j + 1)) r) + b ∧ (T (bks orgs (n + j) r) < T (bks orgs (n + (j + 1)) r) → gt vals (bks orgs (n + j) r) < gt vals (bks orgs (n + (j + 1)) r) + b) := fun j hj => by
    obtain ⟨b, h1, h2, h3, _⟩ := hv (n + j)
    refine ⟨b, h1, ?_, h2, h3⟩
    by_cases z : j + 1 < c
    · have e : J j = c - 2 - j := if_pos z
      rw [e]
      refine hK (c - 2 - j) _ _ b (by omega) (rnL_at (by omega)) ?_ (by
        rw [X, show n + (c - 1 - (c - 2 - j)) = n + (j + 1) by omega]
        exact h1)
      rw [Nat.mod_eq_of_lt (by omega), rnL_at (by omega), X, show n + (c - 1 - (c - 2 - j + 1)) = n + j by omega]
    · have e : J j = c - 1 := if_neg z
      have ej : j = c - 1 := by omega
      subst ej
      rw [e]
      have er : bks orgs (n + (c - 1 + 1)) r = bks orgs n r := by
        rw [show c - 1 + 1 = c by omega, ← X]
        exact R.rnd.ret
      refine hK (c - 1) (bks orgs n r) _ b (by omega) ?_ ?_ (by rw [← er]; exact h1)
      · rw [rnL_at (by omega), show c - 1 - (c - 1) = 0 by omega]
        rfl
      · rw [show c - 1 + 1 = c by omega, Nat.mod_self, rnL_at (by omega), X, show n + (c - 1 - 0) = n + (c - 1) by omega]
  have cyc : bks orgs (n + c) r = bks orgs (n + 0) r := by rw [← X, R.rnd.ret]; rfl
  have key := tele (f := fun j => gt vals (bks orgs (n + j) r)) (K := fun j => K (J j)) c fun j hj => by
    obtain ⟨b, _, h1, h2, _⟩ := st j hj
    show gt vals (bks orgs (n + j) r) ≤ gt vals (bks orgs (n + (j + 1)) r) + K (J j)
    omega
  have strict : ∃ j, j < c ∧ gt vals (bks orgs (n + j) r) < gt vals (bks orgs (n + (j + 1)) r) + K (J j) := by
    by_cases z : ∃ j, j < c ∧ T (bks orgs (n + j) r) < T (bks orgs (n + (j + 1)) r)
    · obtain ⟨j, hj, ht⟩ := z
      obtain ⟨b, _, h1, _, h3⟩ := st j hj
      have := h3 ht
      exact ⟨j, hj, by omega⟩
    · exfalso
      have dn : ∀ j, j < c → T (bks orgs (n + (j + 1)) r) ≤ T (bks orgs (n + j) r) := fun j hj => Nat.le_of_not_lt fun y => z ⟨j, hj, y⟩
      have dn2 : ∀ m, m + 1 ≤ c → T (bks orgs (n + (m + 1)) r) ≤ T (bks orgs (n + 1) r) := by
        intro m
        induction m with
        | zero => intro _; exact Nat.le_refl _
        | succ m ih => intro hm; exact Nat.le_trans (dn (m + 1) (by omega)) (ih (by omega))
      have e1 := dn2 (c - 1) (by omega)
      rw [show c - 1 + 1 = c by omega, cyc] at e1
      have e2 := dn 0 (by omega)
      obtain ⟨b, h1, _, _, h4⟩ := hv (n + 0)
      have e3 := h4 (Nat.le_antisymm e1 e2)
      exact hne _ h1 e3.symm
  have tot := key.2 strict
  have e0 : gt vals (bks orgs (n + 0) r) - gt vals (bks orgs (n + c) r) = 0 := by rw [cyc]; omega
  have tot' : gt vals (bks orgs (n + 0) r) - gt vals (bks orgs (n + c) r) < sumN (fun j => K (J j)) c := tot
  rw [e0] at tot'
  -- the two sums are one
  have es : ((List.range c).map K).sum = sumN (fun j => K (J j)) c := by
    obtain ⟨m, rfl⟩ : ∃ m, c = m + 1 := ⟨c - 1, by omega⟩
    rw [List.range_succ, List.map_append, List.sum_append, sumN]
    have eJ : J m = m := by
      show (if m + 1 < m + 1 then _ else _) = _
      rw [if_neg (Nat.lt_irrefl _)]
      rfl
    have e4 : sumN (fun j => K (J j)) m = ((List.range m).map K).sum := by
      rw [← sumN_list, ← sum_rev]
      congr 1
      refine List.ext_getElem? fun i => ?_
      by_cases hi : i < m
      · rw [List.getElem?_reverse (by simpa using hi), List.getElem?_map, List.getElem?_map, List.length_map, List.length_range, List.getElem?_range (by omega), List.getElem?_range hi]
        show some (K (J (m - 1 - i))) = some (K i)
        have : J (m - 1 - i) = i := by
          show (if m - 1 - i + 1 < m + 1 then m + 1 - 2 - (m - 1 - i) else m + 1 - 1) = i
          rw [if_pos (by omega)]
          omega
        rw [this]
      · rw [List.getElem?_eq_none (by simp; omega), List.getElem?_eq_none (by simp; omega)]
    rw [e4]
    show _ + _ = _ + K (J m)
    rw [eJ]
    simp
  rw [es]
  exact tot'
end My

set_option Elab.async false
set_option linter.all false
set_option maxRecDepth 100000
set_option maxHeartbeats 4000000
namespace My
open PySem L2
/-! what numbers tells -/
noncomputable def numD : Option (List Int) → PyData
  | none => .none
  | some v => .tuple (v.map .int)
noncomputable def NumV (H : Hp) (x : V) : Option (List Int) → Prop
  | none => x = .non
  | some v => ∃ p, x = .ref p ∧ H p = some (.tup (v.map V.int))
theorem ans_of {Q : VK} {H : Hp} {o : Option (List Int)} (h : ∀ x, NumV H x o → Q x H) : Ans Q H o := by
  cases o with
  | none => exact h _ rfl
  | some v => exact fun p hp => h _ ⟨p, rfl, hp⟩
theorem NumV.is {H : Hp} {x : V} {o : Option (List Int)} (h : NumV H x o) : Is H x (numD o) := by
  cases o with
  | none => cases h; exact .non
  | some v => obtain ⟨p, rfl, e⟩ := h; exact .tup e (IsAll.ints _)
theorem NumV.same {H H' : Hp} {x : V} {o : Option (List Int)} (h : NumV H x o) (s : Same H H') : NumV H' x o := by
  cases o with
  | none => exact h
  | some v => obtain ⟨p, rfl, e⟩ := h; exact ⟨p, rfl, s _ _ e⟩
section
variable {P : Program} {w : World} {K : PySem.W.Frag} {mg : Str → Option Value} {base : Heap} {t : Ad}
noncomputable def sp_round_of : Sp := fun vs H Q _ => ∃ x n ps st, vs = [x, .int st] ∧ Is H x (ordD n ps) ∧ Ord n ps ∧ 1 ≤ st ∧ st ≤ 999 ∧
  ∀ H', Same H H' → (nums n ps st ≠ none → Q .non H') ∧ ∀ p th, nums n ps st = none → IsRnd n (dmAll n ps st n) th → H p = none → H' p = some (.lst (nI th)) → Q (.ref p) H'
theorem ok_round_of (T : Txt K mg t) : FnOk P w K mg base CX0 6 t.a_round_of t.d_round_of ["order", "step"] sp_round_of := by
  refine T.F_round_of.ok sc_round_of (fun vs H Q E h => ?_) (fun cdv A outer s H vs Q E hr h => ?_)
  · obtain ⟨x, n, ps, st, rfl, _⟩ := h
    rfl
  · obtain ⟨x, n, ps, st, rfl, hx, ho, h1, h2, q⟩ := h
    refine ⟨_, (pss_cons (ps_expr (pe_call (ok_need_order T) (hr.mono (by decide)) rfl T.m_need_order T.F_need_order.kp T.b_need_order .nil pass0 (pa_cons (pv 0) pa_nil)))
      (pss_cons (ps_expr (pe_call (ok_need_step T) (hr.mono (by decide)) rfl T.m_need_step T.F_need_step.kp T.b_need_step .nil pass0 (pa_cons (pv 1) pa_nil)))
      (pss_one (ps_ret (pe_call (ok_things_in_round T) (hr.mono (by decide)) rfl T.m_things_in_round T.F_things_in_round.kp T.b_things_in_round .nil pass0 (pa_cons (pe_ix (k_ix K) (pv 0) pe_int (fun _ _ => rfl)) (pa_cons (pe_call (ok_all_demands T) (hr.mono (by decide)) rfl T.m_all_demands T.F_all_demands.kp T.b_all_demands .nil pass0 (pa_cons (pv 0) (pa_cons (pv 1) pa_nil))) pa_nil))))))), ?_⟩
    walk_at "rd"
    refine ⟨_, _, rfl, hx, ho.okd, ho.yes, fun H1 s1 => ?_⟩
    walk_at "rd"
    refine ⟨_, _, rfl, .int st, step_ok h1 h2, ?_⟩
    obtain ⟨a, b, xs, rfl, ea, eb, hxs⟩ := is_ord (hx.same s1)
    walk_at "rd"
    refine ⟨_, n, ps, st, rfl, hx.same s1, ho.hi, fun l ys H2 s2 hl hl2 hys => ?_⟩
    walk_at "rd"
    refine ⟨l, _, n, ys, rfl, ho.hi, hl2, hys, dmAll_ok n ps st, dm_ne, fun H3 s3 => ⟨fun hn => (q H3 ((s1.trans s2).trans s3)).1 hn, fun p th hn hR hp e => (q H3 ((s1.trans s2).trans s3)).2 p th hn hR ((s1.trans s2).free hp) e⟩⟩
end
end My


set_option Elab.async false
set_option linter.all false
set_option maxRecDepth 100000
set_option maxHeartbeats 4000000
namespace My
open PySem L2
noncomputable def intD : PyData → Int
  | .int k => k
  | _ => 0
noncomputable def unlD (ds : List PyData) (m : Int) : Bool := ds.all (fun d => wholeB d 0 (m - 1)) && decide (nubN (ds.map intD) = ds.length)
noncomputable def aboveB (os : List (Option Int)) : Bool := os.all (·.isSome) && decide (0 < (os.map (·.getD 0)).sum)
noncomputable def Thing (H : Hp) (x : V) (o : Option (List PyData)) : Prop := match o with
  | some ds => (ds.length ≤ 40 ∧ okDs ds) ∧ ∃ p zs, x = .ref p ∧ H p = some (.lst zs) ∧ IsAll H zs ds
  | none => ∃ d, Is H x d ∧ ∀ ds, d ≠ .list ds
theorem Thing.same {H H' : Hp} {x : V} {o : Option (List PyData)} (h : Thing H x o) (s : Same H H') : Thing H' x o := by
  cases o with
  | none => obtain ⟨d, hd, hn⟩ := h; exact ⟨d, hd.same s, hn⟩
  | some ds => obtain ⟨l, p, zs, e, ep, iz⟩ := h; exact ⟨l, p, zs, e, s _ _ ep, iz.same s⟩
theorem isLst_no {d : PyData} (h : ∀ ds, d ≠ .list ds) : isLstD d = false := by
  cases d <;> first | rfl | exact absurd rfl (h _)
noncomputable def unlO (o : Option (List PyData)) (m : Int) : Bool := match o with | some ds => unlD ds m | none => false
theorem whole_int {d : PyData} {lo hi : Int} (h : wholeB d lo hi = true) : d = .int (intD d) ∧ lo ≤ intD d ∧ intD d ≤ hi := by
  obtain ⟨i, rfl, h1, h2⟩ := wholeB_int h
  exact ⟨rfl, h1, h2⟩
theorem isAll_intD {H : Hp} : ∀ {xs : List V} {ds : List PyData}, IsAll H xs ds → (∀ d ∈ ds, d = .int (intD d)) → xs = (ds.map intD).map V.int
  | _, [], h, _ => by cases h; rfl
  | _, d :: ds, h, g => by
    have e := g d List.mem_cons_self
    cases h with
    | cons h1 t =>
    rw [e] at h1
    cases h1
    rw [isAll_intD t fun d hd => g d (List.mem_cons_of_mem _ hd), List.map_cons, List.map_cons]
theorem okDs_ints (L : List Int) : okDs (L.map PyData.int) := by
  obtain ⟨a, b⟩ := ok_ints L
  rw [PyData.canLay0] at a
  rw [PyData.depth] at b
  refine ⟨a, ?_⟩
  omega
noncomputable def oD : Option Int → PyData
  | some k => .int k
  | none => .none
theorem oD_is (H : Hp) : ∀ os : List (Option Int), IsAll H (os.map oV) (os.map oD)
  | [] => .nil
  | none :: os => .cons .non (oD_is H os)
  | some k :: os => .cons (.int k) (oD_is H os)
theorem oD_ok (os : List (Option Int)) : okDs (os.map oD) := by
  have h1 : PyData.canLayAll0 (os.map oD) = true := by
    induction os with
    | nil => rfl
    | cons o os ih => cases o <;> (rw [List.map_cons, PyData.canLayAll0, ih]; rfl)
  have h2 : PyData.depthAll (os.map oD) ≤ 0 := by
    clear h1
    induction os with
    | nil => exact Nat.le_refl _
    | cons o os ih => cases o <;> (rw [List.map_cons, PyData.depthAll]; exact Nat.max_le.mpr ⟨Nat.le_refl _, ih⟩)
  exact ⟨h1, Nat.le_trans h2 (Nat.zero_le _)⟩
theorem oD_in : ∀ os : List (Option Int), inD .none (os.map oD) = !os.all (·.isSome)
  | [] => rfl
  | o :: os => by
    have := oD_in os
    simp only [inD, List.map_cons, List.any_cons, List.all_cons] at this ⊢
    rw [this]
    cases o <;> simp [oD, PyData.eqv]
theorem oV_some {os : List (Option Int)} (h : os.all (·.isSome) = true) : os.map oV = (os.map (·.getD 0)).map V.int := by
  rw [List.map_map]
  refine List.map_congr_left fun o ho => ?_
  have := List.all_eq_true.mp h o ho
  cases o with
  | none => cases this
  | some k => rfl
section
variable {P : Program} {w : World} {K : PySem.W.Frag} {mg : Str → Option Value} {base : Heap} {t : Ad}
noncomputable def sp_unlikeG : Sp := fun vs H Q _ => ∃ (x : V) (o : Option (List PyData)) (m : Int), vs = [x, .int m] ∧ Thing H x o ∧ ∀ H', Same H H' → Q (.bl (unlO o m)) H'
theorem ok_are_unlike_things (T : Txt K mg t) : FnOk P w K mg base CX0 3 t.a_are_unlike_things t.d_are_unlike_things ["value", "many"] sp_unlikeG := by
  refine T.F_are_unlike_things.ok sc_are_unlike_things (fun vs H Q E h => ?_) (fun cdv A outer s H vs Q E hr h => ?_)
  · obtain ⟨x, o, m, rfl, _⟩ := h
    rfl
  · obtain ⟨x, o, m, rfl, hT, q⟩ := h
    refine ⟨_, (pss_cons (ps_if (pt_not (pt_val (pe_callB c_isinst (by rfl) T.n_isinstance bt_isinstance (pa_cons (pv 0) (pa_cons (pe_bltn (v := .ty "list") rfl T.n_list bt_list rfl) pa_nil))))) (pss_one (ps_ret pe_bl)) pss_nil)
      (pss_cons (ps_if (pt_not (pt_val (pe_callB (k_all K) (by rfl) T.n_all bt_all (pa_cons (pe_lc rfl ⟨True.intro, True.intro, True.intro, (.inl rfl), True.intro⟩ (M := ["thing", "many"]) (.own (.free 1 rfl rfl .nil)) (gk_name rfl) rfl (by decide +kernel) (k_plst K (pv 0)) (fun C fp s1 H1 => ⟨pg_name (i := 0) (show (["thing", "many"] : List Str).Nodup by decide +kernel) rfl (Or.inl rfl), pif_nil, (pe_call (ok_is_thing T) (hr.mono (by decide)) rfl T.m_is_thing T.F_is_thing.kp T.b_is_thing .nil pass0 (pa_cons (pv 0) (pa_cons (pv 1) pa_nil)))⟩)) pa_nil)))) (pss_one (ps_ret pe_bl)) pss_nil)
      (pss_one (ps_ret (pe_cmpR (op_eqD hr.units) (k_lenSet K rfl T.n_len rfl T.n_set (pa_cons (pv 0) pa_nil)) (pe_callB (k_len K) (by rfl) T.n_len bt_len (pa_cons (pv 0) pa_nil)) (nomark _)))))), ?_⟩
    cases o with
    | none =>
      obtain ⟨d, hd, hn⟩ := hT
      have eno := isLst_no hn
      walk_at "rd"
      rw [eno]
      walk_at "rd"
      exact q _ (Same.refl _)
    | some ds =>
    obtain ⟨⟨l16, _⟩, p, zs, rfl, e, iz⟩ := hT
    have q : ∀ H', Same H H' → Q (.bl (unlD ds m)) H' := q
    have ip : Is H (.ref p) (.list ds) := .lst (.inl e) iz
    have lz : zs.length = ds.length := iz.length
    walk_at "rd"
    refine ⟨p, rfl, ⟨_, SqL.of e⟩, ?_⟩
    refine lp_list (K := K) (xs := zs) (small_ln (by omega)) (fun i ys H' => H' = H ∧ ys = ((ds.take i).map fun d => wholeB d 0 (m - 1)).map V.bl) ⟨rfl, rfl⟩ (by rintro i ys H' ⟨_, rfl⟩; simp; omega) (fun i ys H' _ h => by rw [h.1]; exact SqL.of e) ?_ ?_
    · rintro i x ys H1 hx ⟨rfl, rfl⟩
      obtain ⟨d, hd, id⟩ := iz.get' hx
      walk_at "rd"
      refine ⟨_, m, d, rfl, id, rfl, ?_⟩
      rw [List.take_add_one, hd, List.map_append, List.map_append]
      rfl
    · rintro ys H1 ⟨rfl, rfl⟩ p2 hp2
      rw [lz, List.take_length]
      have s1 := Same.upd (o := .lst ((ds.map fun d => wholeB d 0 (m - 1)).map V.bl)) hp2
      have q1 := q _ s1
      unfold unlD at q1
      walk_at "rd"
      refine rd_all upd_same ?_
      rw [List.all_map]
      have e2 := s1 _ _ e
      have ea : (ds.all (id ∘ fun d => wholeB d 0 (m - 1))) = ds.all (fun d => wholeB d 0 (m - 1)) := rfl
      rw [ea]
      cases g : ds.all (fun d => wholeB d 0 (m - 1)) with
      | false =>
        rw [g, Bool.false_and] at q1
        walk_at "rd"
        exact q1
      | true =>
        rw [g, Bool.true_and] at q1
        have ez := isAll_intD iz fun d hd => (whole_int (List.all_eq_true.mp g d hd)).1
        rw [ez] at e2
        walk_at "rd"
        refine rd_lenSet ?_
        walk_at "rd"
        refine ⟨p, ds.map intD, rfl, SqL.of e2, by rw [List.length_map]; omega, ?_⟩
        walk_at "rd"
        rw [List.length_map, List.length_map]
        have eb : (((nubN (ds.map intD) : Nat) : Int) == ((ds.length : Nat) : Int)) = decide (nubN (ds.map intD) = ds.length) := by
          rw [Bool.eq_iff_iff, beq_iff_eq, decide_eq_true_eq]
          omega
        rw [eb]
        exact q1
noncomputable def sp_aboveG : Sp := fun vs H Q _ => ∃ (p : Addr) (os : List (Option Int)), vs = [.ref p] ∧ H p = some (.lst (os.map oV)) ∧ Q (.bl (aboveB os)) H
theorem ok_come_above_nothing (T : Txt K mg t) : FnOk P w K mg base CX0 1 t.a_come_above_nothing t.d_come_above_nothing ["demands"] sp_aboveG := by
  refine T.F_come_above_nothing.ok sc_come_above_nothing (fun vs H Q E h => ?_) (fun cdv A outer s H vs Q E hr h => ?_)
  · obtain ⟨p, os, rfl, _⟩ := h
    rfl
  · obtain ⟨p, os, rfl, e, q⟩ := h
    refine ⟨_, (pss_one (ps_ret (pe_and (pe_cmpR (op_notInD hr.units) pe_non (pv 0) (by rfl)) (pe_one (pe_cmpR (op_gt) (pe_callB (k_sumA K) (by rfl) T.n_sum bt_sum (pa_cons (pv 0) pa_nil)) pe_int (nomark _)))))), ?_⟩
    walk_at "rd"
    refine ⟨.none, os.map oD, .non, .inr (.lst (.inl e) (oD_is H os)), ⟨rfl, Nat.zero_le _⟩, oD_ok os, ?_⟩
    rw [oD_in, if_pos rfl, Bool.not_not]
    unfold aboveB at q
    cases g : os.all (·.isSome) with
    | false =>
      rw [g, Bool.false_and] at q
      walk_at "rd"
      exact q
    | true =>
      rw [g, Bool.true_and] at q
      rw [oV_some g] at e
      walk_at "rd"
      refine rd_sumA e ?_
      walk_at "rd"
      exact q
end
end My


set_option Elab.async false
set_option linter.all false
set_option maxRecDepth 100000
set_option maxHeartbeats 4000000
namespace My
open PySem L2
/-! a round, by the program and by the law -/
noncomputable def dmR (ps : List (Int × Int)) (st : Int) (ns : List Int) : List (Option Int) := (List.range ns.length).map fun i => dem ps st (ns.getD ((i + ns.length - 1) % ns.length) 0) (ns.getD i 0)
noncomputable def dmC (ps : List (Int × Int)) (st : Int) (ns : List Int) : List (Option Int) := (List.range ns.length).map fun i => dem ps st (ns.getD i 0) (ns.getD ((i + 1) % ns.length) 0)
noncomputable def rndL (n : Nat) (ps : List (Int × Int)) (st : Int) (ds : List PyData) : Bool := unlD ds n && (decide (2 ≤ ds.length) && aboveB (dmR ps st (ds.map intD)))
noncomputable def rndO (n : Nat) (ps : List (Int × Int)) (st : Int) : Option (List PyData) → Bool
  | some ds => rndL n ps st ds
  | none => false
noncomputable def dueB (ps : List (Int × Int)) (st : Int) (ns : List Int) : Bool := (dmC ps st ns).all (·.isSome) && (decide (1 < ns.length) && (decide (nubN ns = ns.length) && decide (0 < ((dmC ps st ns).map (·.getD 0)).sum)))
theorem dmR_len (ps : List (Int × Int)) (st : Int) (ns : List Int) : (dmR ps st ns).length = ns.length := by simp [dmR]
theorem dmC_len (ps : List (Int × Int)) (st : Int) (ns : List Int) : (dmC ps st ns).length = ns.length := by simp [dmC]
theorem dmC_at {ps : List (Int × Int)} {st : Int} {ns : List Int} {i : Nat} {a b : Int} (h1 : ns[i]? = some a) (h2 : ns[(i + 1) % ns.length]? = some b) : (dmC ps st ns)[i]? = some (dem ps st a b) := by
  have hi : i < ns.length := (List.getElem?_eq_some_iff.mp h1).1
  unfold dmC
  rw [List.getElem?_map, List.getElem?_range hi, Option.map_some, List.getD_eq_getElem?_getD, List.getD_eq_getElem?_getD, h1, h2]
  rfl
theorem dmR_at {ps : List (Int × Int)} {st : Int} {ns : List Int} {i : Nat} {a b : Int} (h1 : ns[(i + ns.length - 1) % ns.length]? = some a) (h2 : ns[i]? = some b) : (dmR ps st ns)[i]? = some (dem ps st a b) := by
  have hi : i < ns.length := (List.getElem?_eq_some_iff.mp h2).1
  unfold dmR
  rw [List.getElem?_map, List.getElem?_range hi, Option.map_some, List.getD_eq_getElem?_getD, List.getD_eq_getElem?_getD, h1, h2]
  rfl
/-- the one is the other, turned by one -/
theorem dm_turn (ps : List (Int × Int)) (st : Int) (ns : List Int) : ∃ m, ns.length = 0 ∨ (ns.length = m + 1 ∧ ∃ o l, dmC ps st ns = l ++ [o] ∧ dmR ps st ns = o :: l) := by
  cases hl : ns.length with
  | zero => exact ⟨0, .inl rfl⟩
  | succ m =>
    refine ⟨m, .inr ⟨rfl, dem ps st (ns.getD m 0) (ns.getD 0 0), (List.range m).map fun i => dem ps st (ns.getD i 0) (ns.getD (i + 1) 0), ?_, ?_⟩⟩
    · unfold dmC
      rw [hl, List.range_succ, List.map_append]
      congr 1
      · refine List.map_congr_left fun i hi => ?_
        have := List.mem_range.mp hi
        rw [Nat.mod_eq_of_lt (by omega)]
      · simp
    · unfold dmR
      rw [hl, List.range_succ_eq_map, List.map_cons, List.map_map]
      congr 1
      · rw [show 0 + (m + 1) - 1 = m by omega, Nat.mod_eq_of_lt (by omega)]
      · refine List.map_congr_left fun i hi => ?_
        have := List.mem_range.mp hi
        show dem ps st (ns.getD ((i + 1 + (m + 1) - 1) % (m + 1)) 0) (ns.getD (i + 1) 0) = _
        rw [show i + 1 + (m + 1) - 1 = i + (m + 1) by omega, Nat.add_mod_right, Nat.mod_eq_of_lt (by omega)]
theorem above_turn (ps : List (Int × Int)) (st : Int) (ns : List Int) : aboveB (dmR ps st ns) = aboveB (dmC ps st ns) := by
  obtain ⟨m, h | ⟨_, o, l, e1, e2⟩⟩ := dm_turn ps st ns
  · have : ns = [] := List.eq_nil_of_length_eq_zero h
    subst this
    rfl
  · rw [e1, e2]
    unfold aboveB
    rw [List.all_cons, List.all_append, List.map_cons, List.map_append, List.sum_cons, List.sum_append]
    have e3 : ([o].all (·.isSome)) = o.isSome := by simp
    have e4 : ([o].map (·.getD 0)).sum = o.getD 0 := by simp
    rw [e3, e4, Bool.and_comm (l.all (·.isSome)), Int.add_comm]
theorem rnd_due {n : Nat} {ps : List (Int × Int)} {st : Int} {ns : List Int} (h : ∀ k ∈ ns, 0 ≤ k ∧ k < n) : rndL n ps st (ns.map .int) = dueB ps st ns := by
  have e1 : (ns.map PyData.int).all (fun d => wholeB d 0 ((n : Int) - 1)) = true := List.all_eq_true.mpr fun d hd => by
    obtain ⟨k, hk, rfl⟩ := List.mem_map.mp hd
    obtain ⟨a, b⟩ := h k hk
    show (decide (0 ≤ k) && decide (k ≤ (n : Int) - 1)) = true
    simp [a]
    omega
  have e2 : (ns.map PyData.int).map intD = ns := by
    rw [List.map_map]
    have : ns.map (intD ∘ PyData.int) = ns.map id := List.map_congr_left fun k _ => rfl
    rw [this, List.map_id]
  unfold rndL dueB unlD
  rw [e1, e2, above_turn, List.length_map, Bool.true_and]
  unfold aboveB
  rw [show decide (2 ≤ ns.length) = decide (1 < ns.length) from rfl]
  cases (dmC ps st ns).all (·.isSome) <;> cases decide (1 < ns.length) <;> cases decide (nubN ns = ns.length) <;> simp
theorem last_at {zs : List V} {x : V} (h : zs[zs.length - 1]? = some x) (h1 : 1 ≤ zs.length) : atI zs (-1) = some x := by
  have e : ixN zs.length (-1) = some (zs.length - 1) := by
    unfold ixN
    simp
    omega
  unfold atI
  rw [e]
  exact h
section
variable {P : Program} {w : World} {K : PySem.W.Frag} {mg : Str → Option Value} {base : Heap} {t : Ad}
noncomputable def sp_is_round : Sp := fun vs H Q _ => ∃ (x y : V) (n : Nat) (ps : List (Int × Int)) (st : Int) (o : Option (List PyData)), vs = [x, .int st, y] ∧ Is H x (ordD n ps) ∧ Ord n ps ∧ 1 ≤ st ∧ st ≤ 999 ∧ Thing H y o ∧ ∀ H', Same H H' → Q (.bl (rndO n ps st o)) H'
theorem ok_is_round (T : Txt K mg t) : FnOk P w K mg base CX0 6 t.a_is_round t.d_is_round ["order", "step", "thing"] sp_is_round := by
  refine T.F_is_round.ok sc_is_round (fun vs H Q E h => ?_) (fun cdv A outer s H vs Q E hr h => ?_)
  · obtain ⟨x, y, n, ps, st, o, rfl, _⟩ := h
    rfl
  · obtain ⟨x, y, n, ps, st, o, rfl, hx, ho, h1, h2, hT, q⟩ := h
    refine ⟨_, (pss_cons (ps_expr (pe_call (ok_need_order T) (hr.mono (by decide)) rfl T.m_need_order T.F_need_order.kp T.b_need_order .nil pass0 (pa_cons (pv 0) pa_nil)))
      (pss_cons (ps_expr (pe_call (ok_need_step T) (hr.mono (by decide)) rfl T.m_need_step T.F_need_step.kp T.b_need_step .nil pass0 (pa_cons (pv 1) pa_nil)))
      (pss_cons (ps_if (PW.pt (pw_or (pt_not (pt_val (pe_call (ok_are_unlike_things T) (hr.mono (by decide)) rfl T.m_are_unlike_things T.F_are_unlike_things.kp T.b_are_unlike_things .nil pass0 (pa_cons (pv 2) (pa_cons (pe_ix (k_ix K) (pv 0) pe_int (fun _ _ => rfl)) pa_nil))))) (pw_or1 (pt_cmpR (op_lt) (pe_callB (k_len K) (by rfl) T.n_len bt_len (pa_cons (pv 2) pa_nil)) pe_int (nomark _))))) (pss_one (ps_ret pe_bl)) pss_nil)
      (pss_cons (ps_set_lc (i := 3) sc_is_round.nd rfl rfl rfl rfl ⟨True.intro, True.intro, True.intro, (.inl rfl), (.inl rfl), (.inl rfl), True.intro⟩ (M := ["place", "order", "step", "thing"]) (.own (.free 0 rfl rfl (.free 1 rfl rfl (.free 2 rfl rfl .nil)))) (gk_name rfl) rfl (by decide +kernel) (pi_range1 rfl T.n_range (pa_cons (pe_callB (k_len K) (by rfl) T.n_len bt_len (pa_cons (pv 2) pa_nil)) pa_nil)) (fun C fp s1 H1 => ⟨pg_name (i := 0) (show (["place", "order", "step", "thing"] : List Str).Nodup by decide +kernel) rfl (Or.inl rfl), pif_nil, (pe_call (ok_demand T) (hr.mono (by decide)) rfl T.m_demand T.F_demand.kp T.b_demand .nil pass0 (pa_cons (pe_ix (k_ix K) (pv 1) pe_int (fun _ _ => rfl)) (pa_cons (pv 2) (pa_cons (pe_ix (k_ix K) (pv 3) (pe_op op_sub (pv 0) pe_int) (fun _ _ => rfl)) (pa_cons (pe_ix (k_ix K) (pv 3) (pv 0) (fun _ _ => rfl)) pa_nil)))))⟩))
      (pss_one (ps_ret (pe_call (ok_come_above_nothing T) (hr.mono (by decide)) rfl T.m_come_above_nothing T.F_come_above_nothing.kp T.b_come_above_nothing .nil pass0 (pa_cons (pv 3) pa_nil)))))))), ?_⟩
    walk_at "rd"
    refine ⟨_, _, rfl, hx, ho.okd, ho.yes, fun H1 s1 => ?_⟩
    walk_at "rd"
    refine ⟨_, _, rfl, .int st, step_ok h1 h2, ?_⟩
    obtain ⟨a, b, xs, rfl, ea, eb, hxs⟩ := is_ord (hx.same s1)
    walk_at "rd"
    refine ⟨y, o, n, rfl, hT.same s1, fun H2 s2 => ?_⟩
    have s12 := s1.trans s2
    cases o with
    | none =>
      walk_at "rd"
      exact q _ s12
    | some ds =>
    have q : ∀ H', Same H H' → Q (.bl (rndL n ps st ds)) H' := q
    obtain ⟨⟨l40, _⟩, p, zs, rfl, ep, iz0⟩ := hT
    have lz : zs.length = ds.length := iz0.length
    unfold rndL at q
    cases gU : unlD ds n with
    | false =>
      have q1 := q _ s12
      rw [gU, Bool.false_and] at q1
      rw [show unlO (some ds) n = false from gU]
      walk_at "rd"
      exact q1
    | true =>
    rw [show unlO (some ds) n = true from gU]
    have gU' := gU
    unfold unlD at gU'
    rw [Bool.and_eq_true] at gU'
    have ez := isAll_intD iz0 fun d hd => (whole_int (List.all_eq_true.mp gU'.1 d hd)).1
    generalize hns : ds.map intD = ns at ez q
    have ln : ns.length = ds.length := by rw [← hns, List.length_map]
    rw [gU, Bool.true_and] at q
    have ep2 := s12 _ _ ep
    walk_at "rd"
    refine ifB (fun g => ?_) (fun g => ?_)
    · have g' := of_decide_eq_true g
      have q1 := q _ s12
      rw [decide_eq_false (by omega), Bool.false_and] at q1
      walk_at "rd"
      exact q1
    · have g' := of_decide_eq_false g
      rw [decide_eq_true (show 2 ≤ ds.length by omega), Bool.true_and] at q
      walk_at "rd"
      refine ⟨_, rfl, by omega, by omega, ?_⟩
      rw [Int.toNat_natCast]
      refine lp_range (small_ln (by omega)) (fun i ys H' => Same H2 H' ∧ ys = ((dmR ps st ns).take i).map oV) ⟨Same.refl _, rfl⟩ (by rintro i ys H' ⟨_, rfl⟩; rw [List.length_map, List.length_take]; omega) ?_ ?_
      · rintro i ys H3 hi ⟨s3, rfl⟩
        have ea3 := s3 _ _ (s2 _ _ ea)
        have ep3 := s3 _ _ ep2
        obtain ⟨kb, hkb⟩ : ∃ k, ns[i]? = some k := ⟨_, List.getElem?_eq_getElem (by omega)⟩
        have hm : (i + ns.length - 1) % ns.length < ns.length := Nat.mod_lt _ (by omega)
        obtain ⟨ka, hka⟩ : ∃ k, ns[(i + ns.length - 1) % ns.length]? = some k := ⟨_, List.getElem?_eq_getElem hm⟩
        have zb : zs[i]? = some (.int kb) := by rw [ez, List.getElem?_map, hkb]; rfl
        have za : zs[(i + ns.length - 1) % ns.length]? = some (.int ka) := by rw [ez, List.getElem?_map, hka]; rfl
        walk_at "rd"
        have ia : atI zs ((0 : Int) + (i : Int) - 1) = some (.int ka) := by
          by_cases z : i = 0
          · subst z
            have e0 : (0 + ns.length - 1) % ns.length = zs.length - 1 := by rw [Nat.mod_eq_of_lt (by omega)]; omega
            rw [e0] at za
            exact last_at za (by omega)
          · have e0 : (i + ns.length - 1) % ns.length = i - 1 := by
              rw [show i + ns.length - 1 = (i - 1) + ns.length by omega, Nat.add_mod_right, Nat.mod_eq_of_lt (by omega)]
            rw [e0] at za
            exact atI_of (i := i - 1) (by omega) za
        refine rd_ixL ep3 ia ?_
        walk_at "rd"
        refine rd_ixL ep3 (atI_of (i := i) (by omega) zb) ?_
        walk_at "rd"
        refine ⟨_, ps, st, ka, kb, rfl, Is.same (s2.trans s3) (.tup eb hxs), fun H4 s4 => ?_⟩
        rw [List.take_add_one, dmR_at hka hkb, List.map_append]
        exact ⟨s3.trans s4, rfl⟩
      · rintro ys H3 ⟨s3, rfl⟩ p3 hp3
        rw [List.take_of_length_le (by rw [dmR_len]; omega)]
        have f := Same.upd (o := .lst ((dmR ps st ns).map oV)) hp3
        walk_at "rd"
        exact ⟨p3, dmR ps st ns, rfl, upd_same, q _ ((s12.trans s3).trans f)⟩
end
end My


set_option Elab.async false
set_option linter.all false
set_option maxRecDepth 100000
set_option maxHeartbeats 4000000
namespace My
open PySem L2
theorem fp_zip {K : PySem.W.Frag} {H : Hp} {σ : St} {a b : Addr} {xs ys : List V} {G : St → Hp → Prop} {B : (St → Hp → Prop) → V → St → Hp → Prop} (he : ys.length = xs.length) (Pv : Nat → St → Hp → Prop) (h0 : Pv 0 σ H) (hl : ∀ i σ H, i ≤ xs.length → Pv i σ H → SqL K H a xs ∧ SqL K H b ys)
    (hs : ∀ i x y σ H T, xs[i]? = some x → ys[i]? = some y → Pv i σ H → H T = none → B (Pv (i + 1)) (.ref T) σ (upd H T (.tup [x, y]))) (hd : ∀ σ H, Pv xs.length σ H → G σ H) :
    ∃ W : Nat → Nat → St → Hp → Prop, (∃ m, W 0 m σ H) ∧ ∀ i m σ H, W i m σ H → ((Itz K a b).stop i H ∧ G σ H) ∨ ((Itz K a b).go i H ∧
      ∃ N : St → Hp → Prop, (∀ σ' H', N σ' H' → ∃ m', m' < m ∧ W (i + 1) m' σ' H') ∧ ∀ x H', (Itz K a b).yld i H x H' → B N x σ H') := by
  refine ⟨fun i m σ H => m = xs.length - i ∧ i ≤ xs.length ∧ Pv i σ H, ⟨xs.length, by simp, Nat.zero_le _, h0⟩, ?_⟩
  rintro i m σ H ⟨rfl, hi, p⟩
  obtain ⟨qa, qb⟩ := hl i σ H hi p
  by_cases hlt : i < xs.length
  · have hlt2 : i < ys.length := by omega
    refine .inr ⟨⟨xs, ys, xs[i], ys[i], qa, qb, by simp [hlt], by simp [hlt2]⟩, Pv (i + 1), fun σ' H' p' => ⟨xs.length - (i + 1), by omega, rfl, hlt, p'⟩, fun x H' y => ?_⟩
    obtain ⟨T, u, v, e, hT, hu, hv, e2⟩ := y
    subst e e2
    exact hs i u v σ _ T (hu xs qa) (hv ys qb) p hT
  · have e : i = xs.length := by omega
    subst e
    exact .inl ⟨⟨xs, ys, qa, qb, Nat.le_refl _⟩, hd σ H p⟩
theorem cut_tl0 (xs : List V) : cutV xs (some 1) none = xs.drop 1 := by
  have e1 : HT.sIx xs.length 0 (some 1) = min 1 xs.length := by
    have := HT.sIx_nat xs.length 0 1
    rw [show ((1 : Nat) : Int) = 1 from rfl] at this
    exact this
  unfold cutV
  rw [e1, HT.sIx_none]
  cases xs with
  | nil => rfl
  | cons x xs => rw [List.length_cons, Nat.min_eq_left (by omega), List.take_of_length_le (by rw [List.length_drop, List.length_cons]; omega)]
theorem cut_hd0 (xs : List V) : cutV xs none (some 1) = xs.take 1 := by
  have e1 : HT.sIx xs.length xs.length (some 1) = min 1 xs.length := by
    have := HT.sIx_nat xs.length xs.length 1
    rw [show ((1 : Nat) : Int) = 1 from rfl] at this
    exact this
  unfold cutV
  rw [e1, HT.sIx_none, List.drop_zero]
  cases xs with
  | nil => rfl
  | cons x xs => rw [List.length_cons, Nat.min_eq_left (by omega)]
theorem rotV_at {zs : List V} {i : Nat} (h : i < zs.length) : (zs.drop 1 ++ zs.take 1)[i]? = zs[(i + 1) % zs.length]? := by
  by_cases z : i + 1 < zs.length
  · rw [Nat.mod_eq_of_lt z, List.getElem?_append_left (by rw [List.length_drop]; omega), List.getElem?_drop, Nat.add_comm]
  · have e : i + 1 = zs.length := by omega
    rw [e, Nat.mod_self, List.getElem?_append_right (by rw [List.length_drop]; omega), List.length_drop, List.getElem?_take, if_pos (by omega)]
    congr 1
    omega
theorem rotV_len (zs : List V) : (zs.drop 1 ++ zs.take 1).length = zs.length := by
  rw [List.length_append, List.length_drop, List.length_take]
  omega
theorem rd_slL {K : PySem.W.Frag} {H : Hp} {Q : VK} {a : Addr} {xs : List V} {lo hi : Option Int} (e : H a = some (.lst xs)) (h : ∀ p, H p = none → Q (.ref p) (upd H p (.lst (cutV xs lo hi)))) : rSlL K (.ref a) lo hi H Q := ⟨a, xs, rfl, SqL.of e, h⟩
theorem ints_at {ns : List Int} {i : Nat} {x : V} (h : (ns.map V.int)[i]? = some x) : ∃ k, ns[i]? = some k ∧ x = .int k := by
  rw [List.getElem?_map] at h
  cases e : ns[i]? with
  | none => rw [e] at h; cases h
  | some k => rw [e] at h; cases h; exact ⟨k, rfl, rfl⟩
section
variable {P : Program} {w : World} {K : PySem.W.Frag} {mg : Str → Option Value} {base : Heap} {t : Ad}
noncomputable def sp_due : Sp := fun vs H Q _ => ∃ (x : V) (p : Addr) (n : Nat) (ps : List (Int × Int)) (st : Int) (ns : List Int), vs = [x, .int st, .ref p] ∧ Is H x (ordD n ps) ∧ H p = some (.lst (ns.map V.int)) ∧ ns.length ≤ 40 ∧ ∀ H', Same H H' → Q (.bl (dueB ps st ns)) H'
theorem ok__law_due (T : Txt K mg t) : FnOk P w K mg base CX0 1 t.a__law_due t.d__law_due ["_law_order_here", "_law_step", "_law_thing"] sp_due := by
  refine T.F__law_due.ok sc__law_due (fun vs H Q E h => ?_) (fun cdv A outer s H vs Q E hr h => ?_)
  · obtain ⟨x, p, n, ps, st, ns, rfl, _⟩ := h
    rfl
  · obtain ⟨x, p, n, ps, st, ns, rfl, hx, ep, l40, q⟩ := h
    refine ⟨_, (pss_cons (ps_set (i := 3) sc__law_due.nd rfl (Or.inl rfl) pe_int)
      (pss_cons (ps_for PassesOwn.never rfl (k_pzip K rfl T.n_zip (pa_cons (pv 2) (pa_cons (pe_op op_cat (pe_slice (k_slL K) (pv 2) (po_some pe_int) po_none) (pe_slice (k_slL K) (pv 2) po_none (po_some pe_int))) pa_nil))) (k_gtup K rfl (pgs_cons (pg_name (i := 4) sc__law_due.nd rfl (Or.inl rfl)) (pgs_cons (pg_name (i := 5) sc__law_due.nd rfl (Or.inl rfl)) pgs_nil))) (pss_cons (ps_if (PW.pt (pw_and (pt_cmpR (op_notInD hr.units) (pe_tup (pa_cons (pv 4) (pa_cons (pv 5) pa_nil))) (pe_ix (k_ix K) (pv 0) pe_int (fun _ _ => rfl)) (by rfl)) (pw_and1 (pt_cmpR (op_inD hr.units) (pe_tup (pa_cons (pv 5) (pa_cons (pv 4) pa_nil))) (pe_ix (k_ix K) (pv 0) pe_int (fun _ _ => rfl)) (by rfl))))) (pss_one (ps_ret pe_bl)) pss_nil)
      (pss_one (ps_set (i := 3) sc__law_due.nd rfl (Or.inl rfl) (pe_op op_add (pv 3) (pe_ifExp (pt_cmpR (op_inD hr.units) (pe_tup (pa_cons (pv 4) (pa_cons (pv 5) pa_nil))) (pe_ix (k_ix K) (pv 0) pe_int (fun _ _ => rfl)) (by rfl)) (pv 1) (pe_op op_sub pe_int (pv 1))))))))
      (pss_one (ps_ret (pe_and (pe_cmpR (op_gt) (pe_callB (k_len K) (by rfl) T.n_len bt_len (pa_cons (pv 2) pa_nil)) pe_int (nomark _)) (pe_and (pe_cmpR (op_eqD hr.units) (k_lenSet K rfl T.n_len rfl T.n_set (pa_cons (pv 2) pa_nil)) (pe_callB (k_len K) (by rfl) T.n_len bt_len (pa_cons (pv 2) pa_nil)) (nomark _)) (pe_one (pe_cmpR (op_gt) (pv 3) pe_int (nomark _))))))))), ?_⟩
    obtain ⟨oa, ob, xs, rfl, ea, eb, hxs⟩ := is_ord hx
    have ln : (ns.map V.int).length = ns.length := List.length_map _
    have qno : (dmC ps st ns).all (·.isSome) = false → ∀ H', Same H H' → Q (.bl false) H' := fun g H' s => by
      have := q H' s
      unfold dueB at this
      rw [g, Bool.false_and] at this
      exact this
    walk_at "rd"
    refine rd_zip ?_
    walk_at "rd"
    refine rd_sl ?_
    walk_at "rd"
    refine rd_part ?_
    walk_at "rd"
    refine ⟨1, rfl, ?_⟩
    refine rd_noP ?_
    refine rd_slL ep fun p1 hp1 => ?_
    rw [cut_tl0]
    have f1 := Same.upd (o := .lst ((ns.map V.int).drop 1)) hp1
    walk_at "rd"
    refine rd_sl ?_
    walk_at "rd"
    refine rd_noP ?_
    refine rd_part ?_
    walk_at "rd"
    refine ⟨1, rfl, ?_⟩
    refine rd_slL (f1 _ _ ep) fun p2 hp2 => ?_
    rw [cut_hd0]
    have f2 := Same.upd (o := .lst ((ns.map V.int).take 1)) hp2
    refine rd_cat (f2 _ _ upd_same) upd_same (by rw [List.length_drop, List.length_take]; exact small_ln (by omega)) fun p3 hp3 => ?_
    have f13 := (f1.trans f2).trans (Same.upd (o := .lst ((ns.map V.int).drop 1 ++ (ns.map V.int).take 1)) hp3)
    have er : upd (upd (upd H p1 (.lst ((ns.map V.int).drop 1))) p2 (.lst ((ns.map V.int).take 1))) p3 (.lst ((ns.map V.int).drop 1 ++ (ns.map V.int).take 1)) p3 = some (.lst ((ns.map V.int).drop 1 ++ (ns.map V.int).take 1)) := upd_same
    generalize upd (upd (upd H p1 (.lst ((ns.map V.int).drop 1))) p2 (.lst ((ns.map V.int).take 1))) p3 (.lst ((ns.map V.int).drop 1 ++ (ns.map V.int).take 1)) = H4 at f13 er
    have ep4 := f13 _ _ ep
    have ea4 := f13 _ _ ea
    have it4 : Is H4 (.ref ob) (.tuple (ps.map prD)) := Is.same f13 (.tup eb hxs)
    walk_at "rd"
    refine ⟨p, p3, rfl, ⟨_, SqL.of ep4⟩, ⟨_, SqL.of er⟩, ?_⟩
    refine fp_zip (K := K) (xs := ns.map V.int) (ys := (ns.map V.int).drop 1 ++ (ns.map V.int).take 1) (rotV_len _) (fun i σ H' => (∃ v4 v5, σ = [some (.ref oa), some (.int st), some (.ref p), some (.int (((dmC ps st ns).take i).map (·.getD 0)).sum), v4, v5]) ∧ Same H4 H' ∧ ∀ (j : Nat) (o : Option Int), j < i → (dmC ps st ns)[j]? = some o → o.isSome = true) ⟨⟨_, _, rfl⟩, Same.refl _, fun j o h => absurd h (Nat.not_lt_zero _)⟩ (fun i σ H' _ h => ⟨SqL.of (h.2.1 _ _ ep4), SqL.of (h.2.1 _ _ er)⟩) ?_ ?_
    · rintro i x y σ H5 T1 hx hy ⟨⟨v4, v5, rfl⟩, s5, hsome⟩ hT1
      have hi : i < (ns.map V.int).length := (List.getElem?_eq_some_iff.mp hx).1
      rw [rotV_at hi, ln] at hy
      obtain ⟨ka, hka, rfl⟩ := ints_at hx
      obtain ⟨kb, hkb, rfl⟩ := ints_at hy
      have hdl := dmC_at (ps := ps) (st := st) hka hkb
      have g1 := s5.trans (Same.upd (o := .tup [V.int ka, V.int kb]) hT1)
      refine rd_gtup upd_same rfl ?_
      generalize upd H5 T1 (.tup [V.int ka, V.int kb]) = H6 at g1
      have ea6 := g1 _ _ ea4
      have it6 := it4.same g1
      have nxt : ∀ k, dem ps st ka kb = some k → (((dmC ps st ns).take (i + 1)).map (·.getD 0)).sum = (((dmC ps st ns).take i).map (·.getD 0)).sum + k ∧ ∀ (j : Nat) (o : Option Int), j < i + 1 → (dmC ps st ns)[j]? = some o → o.isSome = true := fun k hk => by
        rw [hk] at hdl
        refine ⟨?_, fun j o hj ho => ?_⟩
        · rw [List.take_add_one, hdl, List.map_append, List.sum_append]
          simp
        · by_cases z : j < i
          · exact hsome j o z ho
          · have : j = i := by omega
            subst this
            rw [hdl] at ho
            cases ho
            rfl
      walk_at "rd"
      refine ⟨by show 2 ≤ sizeLine; decide, fun q1 hq1 => ?_⟩
      have f1 := Same.upd (o := .tup [V.int ka, V.int kb]) hq1
      have ea7 := f1 _ _ ea6
      have it7 := it6.same f1
      have s7 := g1.trans f1
      have eq1 : upd H6 q1 (.tup [V.int ka, V.int kb]) q1 = some (.tup [V.int ka, V.int kb]) := upd_same
      generalize upd H6 q1 (.tup [V.int ka, V.int kb]) = H7 at ea7 it7 s7 eq1
      walk_at "rd"
      refine rd_ninP eq1 it7 ?_
      clear eq1
      cases gp : has ps ka kb with
      | true =>
        obtain ⟨eS, hS⟩ := nxt st (by unfold dem; rw [if_pos gp])
        rw [eS]
        walk_at "rd"
        refine ⟨by show 2 ≤ sizeLine; decide, fun q3 hq3 => ?_⟩
        have f3 := Same.upd (o := .tup [V.int ka, V.int kb]) hq3
        have ea8 := f3 _ _ ea7
        walk_at "rd"
        refine rd_inP upd_same (it7.same f3) ?_
        rw [gp]
        walk_at "rd"
        exact ⟨⟨_, _, rfl⟩, s7.trans f3, hS⟩
      | false =>
        walk_at "rd"
        refine ⟨by show 2 ≤ sizeLine; decide, fun q2 hq2 => ?_⟩
        have f2 := Same.upd (o := .tup [V.int kb, V.int ka]) hq2
        have ea8 := f2 _ _ ea7
        have it8 := it7.same f2
        have s8 := s7.trans f2
        have eq2 : upd H7 q2 (.tup [V.int kb, V.int ka]) q2 = some (.tup [V.int kb, V.int ka]) := upd_same
        generalize upd H7 q2 (.tup [V.int kb, V.int ka]) = H8 at ea8 it8 s8 eq2
        walk_at "rd"
        refine rd_inP eq2 it8 ?_
        cases gq : has ps kb ka with
        | true =>
          have hn : dem ps st ka kb = none := by unfold dem; rw [gp, gq]; rfl
          rw [hn] at hdl
          have hno : (dmC ps st ns).all (·.isSome) = false := by
            cases g : (dmC ps st ns).all (·.isSome) with
            | false => rfl
            | true => exact absurd (List.all_eq_true.mp g none (List.mem_of_getElem? hdl)) (by decide)
          walk_at "rd"
          exact qno hno _ (f13.trans s8)
        | false =>
          obtain ⟨eS, hS⟩ := nxt (1 - st) (by unfold dem; rw [gp, gq, if_neg Bool.false_ne_true, if_neg Bool.false_ne_true])
          rw [eS]
          walk_at "rd"
          refine ⟨by show 2 ≤ sizeLine; decide, fun q3 hq3 => ?_⟩
          have f3 := Same.upd (o := .tup [V.int ka, V.int kb]) hq3
          have ea9 := f3 _ _ ea8
          walk_at "rd"
          refine rd_inP upd_same (it8.same f3) ?_
          rw [gp]
          walk_at "rd"
          exact ⟨⟨_, _, rfl⟩, s8.trans f3, hS⟩
    · rintro σ H5 ⟨⟨v4, v5, rfl⟩, s5, hsome⟩
      rw [List.take_of_length_le (by rw [dmC_len, ln]; exact Nat.le_refl _)]
      have hall : (dmC ps st ns).all (·.isSome) = true := List.all_eq_true.mpr fun o ho => by
        obtain ⟨i, hi⟩ := List.getElem?_of_mem ho
        exact hsome i o (by rw [ln, ← dmC_len ps st ns]; exact (List.getElem?_eq_some_iff.mp hi).1) hi
      have ep5 := s5 _ _ ep4
      have q9 := q _ (f13.trans s5)
      unfold dueB at q9
      rw [hall, Bool.true_and] at q9
      walk_at "rd"
      rw [ln]
      by_cases h1 : 1 < ns.length
      · rw [decide_eq_true h1, Bool.true_and] at q9
        refine ifT (decide_eq_true (by omega)) ?_
        walk_at "rd"
        refine rd_lenSet ?_
        walk_at "rd"
        refine ⟨p, ns, rfl, SqL.of ep5, by omega, ?_⟩
        walk_at "rd"
        rw [ln]
        by_cases h2 : nubN ns = ns.length
        · rw [decide_eq_true h2, Bool.true_and] at q9
          refine ifT (by rw [h2]; exact beq_self_eq_true _) ?_
          walk_at "rd"
          exact q9
        · rw [decide_eq_false h2, Bool.false_and] at q9
          refine ifF (by
            have : ¬ ((nubN ns : Int) = (ns.length : Int)) := by omega
            simpa using this) ?_
          exact q9
      · rw [decide_eq_false h1, Bool.false_and] at q9
        refine ifF (decide_eq_false (by omega)) ?_
        exact q9
end
end My

set_option Elab.async false
set_option linter.all false
set_option maxRecDepth 100000
set_option maxHeartbeats 4000000
namespace My
open PySem L2
noncomputable def gr0 (vs : List Int) (d : Dm) : List Int := vs.set d.2.1 (if vs.getD d.1 0 + d.2.2 > vs.getD d.2.1 0 then vs.getD d.1 0 + d.2.2 else vs.getD d.2.1 0)
noncomputable def gr1 (ds : List Dm) (vs : List Int) : List Int := ds.foldl gr0 vs
theorem set_own (l : List Int) (i : Nat) : l.set i (l.getD i 0) = l := by
  apply List.ext_getElem?
  intro j
  rw [List.getElem?_set]
  by_cases h : i = j
  · subst h
    rw [if_pos rfl]
    by_cases g : i < l.length
    · simp [g]
    · simp [g]
  · rw [if_neg h]
theorem gr1_run : ∀ (ds : List Dm) (s : Rs), gr1 ds s.1 = (ds.foldl rel1 s).1
  | [], s => rfl
  | d :: ds, s => by
    have e : gr0 s.1 d = (rel1 s d).1 := by
      unfold gr0 rel1
      split
      · rfl
      · exact set_own _ _
    show gr1 ds (gr0 s.1 d) = _
    rw [e]
    exact gr1_run ds (rel1 s d)
noncomputable def grounds (ds : List Dm) : Nat → List Int → Option (List Int)
  | 0, _ => none
  | k + 1, vals => if gr1 ds vals = vals then some (gr1 ds vals) else grounds ds k (gr1 ds vals)
theorem gr1_len (ds : List Dm) (vals : List Int) : (gr1 ds vals).length = vals.length := by
  rw [gr1_run ds (vals, [], V.non)]
  exact (fold_len ds (vals, [], V.non)).1
theorem grounds_some {n : Nat} {ds : List Dm} (hd : dmOk n ds) : ∀ (k : Nat) (vals v : List Int), vals.length = n → grounds ds k vals = some v →
    v.length = n ∧ (∀ i, gt vals i ≤ gt v i) ∧ SolD ds (gt v) ∧ ∀ x, SolD ds x → (∀ i, i < n → gt vals i ≤ x i) → ∀ i, i < n → gt v i ≤ x i
  | 0, vals, v, hl, h => by cases h
  | k + 1, vals, v, hl, h => by
    rw [grounds] at h
    have er := gr1_run ds (vals, [], V.non)
    by_cases g : gr1 ds vals = vals
    · rw [if_pos g] at h
      injection h with h
      rw [g] at h
      subst h
      refine ⟨hl, fun i => Int.le_refl _, fun d hm => ?_, fun x _ hx => hx⟩
      have ge := fold_ge ds (vals, [], V.non) hl hd d hm
      rw [← er, g] at ge
      exact ge
    · rw [if_neg g] at h
      obtain ⟨a, b, c, e⟩ := grounds_some hd k (gr1 ds vals) v ((gr1_len ds vals).trans hl) h
      refine ⟨a, fun i => ?_, c, fun x sx hx => e x sx fun i hi => ?_⟩
      · have m := fold_mono ds (vals, [], V.non) hl hd i
        rw [← er] at m
        exact Int.le_trans m (b i)
      · have m := fold_le ds (vals, [], V.non) hl hd sx hx i hi
        rw [← er] at m
        exact m
theorem grounds_is {ds : List Dm} : ∀ (k : Nat) (vals : List Int) (orgs : List V) (r : V), 1 ≤ k → (rounds ds k vals orgs r).2.2 = .non → ∀ k', k ≤ k' → ∃ v, grounds ds k' vals = some v
  | 0, _, _, _, h, _, _, _ => by omega
  | k + 1, vals, orgs, r, _, e, 0, h => by omega
  | k + 1, vals, orgs, r, _, e, k' + 1, h => by
    rw [grounds]
    by_cases g : gr1 ds vals = vals
    · exact ⟨_, by rw [if_pos g]⟩
    · rw [if_neg g]
      have er : gr1 ds vals = (run1 ds vals orgs).1 := gr1_run ds (vals, orgs, V.non)
      rw [rounds] at e
      by_cases z : (run1 ds vals orgs).2.2 = .non
      · exfalso
        obtain ⟨a, _⟩ := fold_non ds _ z
        have ea : (run1 ds vals orgs).1 = vals := congrArg (fun s : Rs => s.1) a
        rw [ea] at er
        exact g er
      · rw [if_neg z] at e
        match k, e, h with
        | 0, e, h => exact absurd e z
        | k + 1, e, h =>
          rw [er]
          exact grounds_is (k + 1) _ _ _ (by omega) e k' (by omega)
theorem gt_ext {n : Nat} {a b : List Int} (ha : a.length = n) (hb : b.length = n) (h : ∀ i, i < n → gt a i = gt b i) : a = b := by
  apply List.ext_getElem (by omega)
  intro i h1 h2
  have := h i (by omega)
  unfold gt at this
  simpa [List.getD_eq_getElem?_getD, h1, h2] using this
theorem lv_grownG {n : Nat} (n1 : 1 ≤ n) {ds es : List Dm} (hd : dmOk n ds) (he : dmOk n es) (hs : ∀ x, SolD ds x ↔ SolD es x) : grounds es (n + 1) (List.replicate n 0) = lv n ds := by
  have z0 : ∀ x : Nat → Int, Nt.NN n x → ∀ i, i < n → gt (List.replicate n (0 : Int)) i ≤ x i := fun x nx i hi => by rw [gt_rep]; exact nx i hi
  cases e : lv n ds with
  | some v =>
    obtain ⟨a, b, c, d⟩ := lv_some n1 hd e
    have s2 := (hs _).mp c
    obtain ⟨w, hw⟩ := lv_none n1 he s2 b
    have hr : (rounds es n (List.replicate n 0) (List.replicate n .non) .non).2.2 = .non := by
      unfold lv at hw
      split at hw
      · assumption
      · cases hw
    obtain ⟨u, hu⟩ := grounds_is n _ _ _ n1 hr (n + 1) (Nat.le_succ _)
    obtain ⟨a2, b2, c2, d2⟩ := grounds_some he (n + 1) _ u List.length_replicate hu
    rw [hu]
    congr 1
    refine gt_ext a2 a fun i hi => ?_
    have k1 := d2 (gt v) s2 (z0 _ b) i hi
    have k2 := d (gt u) ((hs _).mpr c2) (fun j _ => by have := b2 j; rw [gt_rep] at this; exact this) i hi
    omega
  | none =>
    cases h : grounds es (n + 1) (List.replicate n 0) with
    | none => rfl
    | some u =>
      obtain ⟨a2, b2, c2, d2⟩ := grounds_some he (n + 1) _ u List.length_replicate h
      obtain ⟨w, hw⟩ := lv_none n1 hd ((hs _).mpr c2) (fun j _ => by have := b2 j; rw [gt_rep] at this; exact this)
      rw [e] at hw
      cases hw
/-! the law's demands -/
noncomputable def lsV (ps : List (Int × Int)) (st : Int) (i j : Nat) : Int := (if has ps i j = true then st else 1 - st) * (if i = j then 0 else 1)
noncomputable def lsI (ps : List (Int × Int)) (st : Int) (i j : Nat) : List Dm := if (has ps i j || !has ps j i) = true then [(i, j, lsV ps st i j)] else []
noncomputable def lsRow (ps : List (Int × Int)) (st : Int) (i m : Nat) : List Dm := (List.range m).flatMap (lsI ps st i)
noncomputable def lsAll (n : Nat) (ps : List (Int × Int)) (st : Int) (m : Nat) : List Dm := (List.range m).flatMap fun i => lsRow ps st i n
theorem lsRow_succ (ps : List (Int × Int)) (st : Int) (i m : Nat) : lsRow ps st i (m + 1) = lsRow ps st i m ++ lsI ps st i m := by
  unfold lsRow
  rw [List.range_succ, List.flatMap_append]
  simp
theorem lsAll_succ (n : Nat) (ps : List (Int × Int)) (st : Int) (m : Nat) : lsAll n ps st (m + 1) = lsAll n ps st m ++ lsRow ps st m n := by
  unfold lsAll
  rw [List.range_succ, List.flatMap_append]
  simp
theorem mem_ls {n : Nat} {ps : List (Int × Int)} {st : Int} {d : Dm} : d ∈ lsAll n ps st n ↔ d.1 < n ∧ d.2.1 < n ∧ (has ps d.1 d.2.1 || !has ps d.2.1 d.1) = true ∧ d.2.2 = lsV ps st d.1 d.2.1 := by
  unfold lsAll lsRow
  rw [List.mem_flatMap]
  constructor
  · rintro ⟨i, hi, h⟩
    obtain ⟨j, hj, h⟩ := List.mem_flatMap.mp h
    unfold lsI at h
    split at h
    · rename_i g
      rcases List.mem_singleton.mp h with rfl
      exact ⟨List.mem_range.mp hi, List.mem_range.mp hj, g, rfl⟩
    · cases h
  · rintro ⟨hi, hj, g, e⟩
    refine ⟨d.1, List.mem_range.mpr hi, List.mem_flatMap.mpr ⟨d.2.1, List.mem_range.mpr hj, ?_⟩⟩
    unfold lsI
    rw [if_pos g]
    exact List.mem_singleton.mpr (by rw [← e])
theorem ls_ok (n : Nat) (ps : List (Int × Int)) (st : Int) : dmOk n (lsAll n ps st n) := fun d hd => let h := mem_ls.mp hd; ⟨h.1, h.2.1⟩
theorem sol_ls {n : Nat} {ps : List (Int × Int)} {st : Int} (x : Nat → Int) : SolD (dmAll n ps st n) x ↔ SolD (lsAll n ps st n) x := by
  constructor
  · intro h d hd
    obtain ⟨h1, h2, h3, h4⟩ := mem_ls.mp hd
    by_cases e : d.1 = d.2.1
    · rw [h4]
      unfold lsV
      rw [if_pos e, e]
      omega
    · refine h d (mem_dm.mpr ⟨h1, h2, e, ?_⟩)
      rw [h4]
      unfold lsV dem
      rw [if_neg e, Int.mul_one]
      cases g : has ps d.1 d.2.1 with
      | true => rfl
      | false =>
        rw [g, Bool.false_or, Bool.not_eq_true'] at h3
        rw [h3]
        rfl
  · intro h d hd
    obtain ⟨h1, h2, h3, h4⟩ := mem_dm.mp hd
    refine h d (mem_ls.mpr ⟨h1, h2, ?_, ?_⟩)
    · unfold dem at h4
      cases g : has ps d.1 d.2.1 with
      | true => rfl
      | false =>
        rw [g] at h4
        cases g2 : has ps d.2.1 d.1 with
        | true => rw [g2] at h4; cases h4
        | false => rfl
    · unfold lsV
      rw [if_neg h3, Int.mul_one]
      unfold dem at h4
      cases g : has ps d.1 d.2.1 with
      | true => rw [g] at h4; injection h4 with h4; exact h4.symm
      | false =>
        rw [g] at h4
        cases g2 : has ps d.2.1 d.1 with
        | true => rw [g2] at h4; cases h4
        | false => rw [g2] at h4; injection h4 with h4; exact h4.symm
theorem gr1_app (ds es : List Dm) (vs : List Int) : gr1 (ds ++ es) vs = gr1 es (gr1 ds vs) := by
  unfold gr1
  rw [List.foldl_append]
theorem rd_eqL {H : Hp} {Q : VK} {p r : Addr} {as bs : List Int} (hx : H p = some (.lst (as.map V.int))) (hy : H r = some (.lst (bs.map V.int))) (h : Q (.bl (decide (as = bs))) H) : rEqD false (.ref p) (.ref r) H Q :=
  rd_eqD (.lst (Rd.of hx) (IsAll.ints as)) (.lst (Rd.of hy) (IsAll.ints bs)) (ok_ints as) (ok_ints bs) (by rw [PyData.eqv, eqvAll_ints]; exact h)
section
variable {P : Program} {w : World} {K : PySem.W.Frag} {mg : Str → Option Value} {base : Heap} {t : Ad}
noncomputable def sp_lw_least : Sp := fun vs H Q _ => ∃ (x : V) (n : Nat) (ps : List (Int × Int)) (st : Int), vs = [x, .int st] ∧ Is H x (ordD n ps) ∧ n ≤ 8 ∧ 1 ≤ st ∧ st ≤ 999 ∧ ∀ H', Same H H' → Ans Q H' (grounds (lsAll n ps st n) (n + 1) (List.replicate n 0))
theorem ok__law_least (T : Txt K mg t) : FnOk P w K mg base CX0 1 t.a__law_least t.d__law_least ["_law_order_here", "_law_step"] sp_lw_least := by
  refine T.F__law_least.ok sc__law_least (fun vs H Q E h => ?_) (fun cdv A outer s H vs Q E hr h => ?_)
  · obtain ⟨x, n, ps, st, rfl, _⟩ := h
    rfl
  · obtain ⟨x, n, ps, st, rfl, hx, n8, st1, st2, q⟩ := h
    refine ⟨_, (pss_cons (ps_set (i := 2) sc__law_least.nd rfl (Or.inl rfl) (pe_op op_rep (pe_lst (pa_cons pe_int pa_nil)) (pe_ix (k_ix K) (pv 0) pe_int (fun _ _ => rfl))))
      (pss_cons (ps_for PassesOwn.never rfl (pi_range1 rfl T.n_range (pa_cons (pe_op op_add (pe_ix (k_ix K) (pv 0) pe_int (fun _ _ => rfl)) pe_int) pa_nil)) (pg_name (i := 3) sc__law_least.nd rfl (Or.inl rfl)) (pss_cons (ps_set (i := 4) sc__law_least.nd rfl (Or.inl rfl) (pe_callTy (k_list K) (by rfl) T.n_list bt_list (pa_cons (pv 2) pa_nil)))
      (pss_cons (ps_for PassesOwn.never rfl (pi_range1 rfl T.n_range (pa_cons (pe_ix (k_ix K) (pv 0) pe_int (fun _ _ => rfl)) pa_nil)) (pg_name (i := 5) sc__law_least.nd rfl (Or.inl rfl)) (pss_one (ps_for PassesOwn.never rfl (pi_range1 rfl T.n_range (pa_cons (pe_ix (k_ix K) (pv 0) pe_int (fun _ _ => rfl)) pa_nil)) (pg_name (i := 6) sc__law_least.nd rfl (Or.inl rfl)) (pss_cons (ps_set (i := 7) sc__law_least.nd rfl (Or.inl rfl) (pe_op op_sub pe_int (pv 1)))
      (pss_cons (ps_if (pt_cmpR (op_inD hr.units) (pe_tup (pa_cons (pv 5) (pa_cons (pv 6) pa_nil))) (pe_ix (k_ix K) (pv 0) pe_int (fun _ _ => rfl)) (by rfl)) (pss_one (ps_set (i := 7) sc__law_least.nd rfl (Or.inl rfl) (pv 1))) pss_nil)
      (pss_one (ps_if (PW.pt (pw_or (pt_cmpR (op_inD hr.units) (pe_tup (pa_cons (pv 5) (pa_cons (pv 6) pa_nil))) (pe_ix (k_ix K) (pv 0) pe_int (fun _ _ => rfl)) (by rfl)) (pw_or1 (pt_cmpR (op_notInD hr.units) (pe_tup (pa_cons (pv 6) (pa_cons (pv 5) pa_nil))) (pe_ix (k_ix K) (pv 0) pe_int (fun _ _ => rfl)) (by rfl))))) (pss_one (ps_asg (pe_callB (c_max rfl) (by rfl) T.n_max bt_max (pa_cons (pe_ix (k_ix K) (pv 2) (pv 6) (fun _ _ => rfl)) (pa_cons (pe_op op_add (pe_ix (k_ix K) (pv 2) (pv 5) (fun _ _ => rfl)) (pe_op op_mul (pv 7) (pe_callTy c_int (by rfl) T.n_int bt_int (pa_cons (pe_cmpR (op_neD hr.units) (pv 5) (pv 6) (nomark _)) pa_nil)))) pa_nil))) (pg_sub (pv 2) (pv 6) set_list (fun _ => rfl)))) pss_nil)))))))
      (pss_one (ps_if (pt_cmpR (op_eqD hr.units) (pv 2) (pv 4) (nomark _)) (pss_one (ps_ret (pe_callTy (k_tuple K) (by rfl) T.n_tuple bt_tuple (pa_cons (pv 2) pa_nil)))) pss_nil)))))
      (pss_one (ps_ret pe_non)))), ?_⟩
    obtain ⟨oa, ob, xs, rfl, ea, eb, hxs⟩ := is_ord hx
    have it : Is H (.ref ob) (.tuple (ps.map prD)) := .tup eb hxs
    walk_at "rd"
    refine ⟨by show 1 ≤ sizeLine; decide, fun p1 hp1 => ?_⟩
    have t2 := Same.upd (o := .lst [V.int 0]) hp1
    have ea2 := t2 _ _ ea
    walk_at "rd"
    refine rd_rep upd_same (by omega) fun v hv => ?_
    have s3 := t2.trans (Same.upd (o := .lst (List.replicate n (V.int 0))) hv)
    have ev3 : upd (upd H p1 (.lst [V.int 0])) v (.lst (List.replicate n (V.int 0))) v = some (.lst ((List.replicate n (0 : Int)).map V.int)) := by rw [upd_same, List.map_replicate]
    have nvH : H v = none := by
      cases e : H v with
      | none => rfl
      | some u => rw [t2 _ _ e] at hv; cases hv
    generalize upd (upd H p1 (.lst [V.int 0])) v (.lst (List.replicate n (V.int 0))) = H3 at s3 ev3
    have ea3 := s3 _ _ ea
    clear t2 hv hp1 ea2
    have fin : ∀ H', SameT v H H' → Same H H' := fun H' s b u e => s b u e fun z => by rw [z, nvH] at e; cases e
    have getO : ∀ H', SameT v H H' → H' oa = some (.tup [V.int (n : Nat), V.ref ob]) ∧ Is H' (.ref ob) (.tuple (ps.map prD)) := fun H' s => ⟨fin H' s _ _ ea, it.same (fin H' s)⟩
    walk_at "rd"
    refine ⟨_, rfl, by omega, by omega, ?_⟩
    rw [show ((n : Int) + 1).toNat = n + 1 by omega]
    refine fp_range (fun i σ H' => i ≤ n + 1 ∧ SameT v H H' ∧ ∃ vals v3 v4 v5 v6 v7, σ = [some (.ref oa), some (.int st), some (.ref v), v3, v4, v5, v6, v7] ∧ H' v = some (.lst (vals.map V.int)) ∧ vals.length = n ∧ grounds (lsAll n ps st n) (n + 1 - i) vals = grounds (lsAll n ps st n) (n + 1) (List.replicate n 0))
      ⟨Nat.zero_le _, s3.t, _, _, _, _, _, _, rfl, ev3, List.length_replicate, rfl⟩ ?_ ?_
    · rintro i σ H4 hi ⟨_, s4, vals, v3, v4, v5, v6, v7, rfl, ev4, lv4, hG⟩
      walk_at "rd"
      refine rd_lstL ev4 fun b hb => ?_
      have t5 := Same.upd (o := .lst (vals.map V.int)) hb
      have nvb : v ≠ b := ne_of_none ev4 hb
      have ev5 := t5 _ _ ev4
      have eb5 : upd H4 b (.lst (vals.map V.int)) b = some (.lst (vals.map V.int)) := upd_same
      have s5 := s4.trans t5.t (w := v)
      generalize upd H4 b (.lst (vals.map V.int)) = H5 at ev5 eb5 s5
      clear t5 hb
      obtain ⟨eo5, _⟩ := getO H5 s5
      walk_at "rd"
      refine ⟨_, rfl, by omega, by omega, ?_⟩
      rw [Int.toNat_natCast]
      refine fp_range (fun j σ H' => SameT v H5 H' ∧ (∃ v5 v6 v7, σ = [some (.ref oa), some (.int st), some (.ref v), some (.int (0 + i)), some (.ref b), v5, v6, v7]) ∧ H' v = some (.lst ((gr1 (lsAll n ps st j) vals).map V.int))) ⟨SameT.refl _ _, ⟨_, _, _, rfl⟩, ev5⟩ ?_ ?_
      · rintro j σ H6 hj ⟨u6, ⟨w5, w6, w7, rfl⟩, ev6⟩
        obtain ⟨eo6, _⟩ := getO H6 (s5.trans u6)
        walk_at "rd"
        refine ⟨_, rfl, by omega, by omega, ?_⟩
        rw [Int.toNat_natCast]
        refine fp_range (fun k σ H' => SameT v H5 H' ∧ (∃ v6 v7, σ = [some (.ref oa), some (.int st), some (.ref v), some (.int (0 + i)), some (.ref b), some (.int (0 + j)), v6, v7]) ∧ H' v = some (.lst ((gr1 (lsAll n ps st j ++ lsRow ps st j k) vals).map V.int))) ⟨u6, ⟨_, _, rfl⟩, by simpa [lsRow] using ev6⟩ ?_ ?_
        · rintro k σ H7 hk ⟨u7, ⟨x6, x7, rfl⟩, ev7⟩
          rw [lsRow_succ, ← List.append_assoc, gr1_app]
          have lg : (gr1 (lsAll n ps st j ++ lsRow ps st j k) vals).length = n := (gr1_len _ _).trans lv4
          generalize gr1 (lsAll n ps st j ++ lsRow ps st j k) vals = ws at ev7 lg
          obtain ⟨eo7, it7⟩ := getO H7 (s5.trans u7)
          walk_at "rd"
          refine ⟨by show 2 ≤ sizeLine; decide, fun q1 hq1 => ?_⟩
          have f1 := Same.upd (o := .tup [V.int (0 + (j : Int)), V.int (0 + (k : Int))]) hq1
          have ev8 := f1 _ _ ev7
          have eo8 := f1 _ _ eo7
          have it8 := it7.same f1
          have u8 := u7.trans f1.t (w := v)
          have eq1 : upd H7 q1 (.tup [V.int (0 + (j : Int)), V.int (0 + (k : Int))]) q1 = some (.tup [V.int (0 + (j : Int)), V.int (0 + (k : Int))]) := upd_same
          generalize upd H7 q1 (.tup [V.int (0 + (j : Int)), V.int (0 + (k : Int))]) = H8 at ev8 eo8 it8 u8 eq1
          have hjk : has ps (0 + (j : Int)) (0 + (k : Int)) = has ps j k := by rw [Int.zero_add, Int.zero_add]
          have hkj : has ps (0 + (k : Int)) (0 + (j : Int)) = has ps k j := by rw [Int.zero_add, Int.zero_add]
          walk_at "rd"
          refine rd_inP eq1 it8 ?_
          rw [hjk]
          clear eq1 f1 ev7 eo7 it7 u7
          cases gp : has ps j k with
          | true =>
            walk_at "rd"
            refine ⟨by show 2 ≤ sizeLine; decide, fun q2 hq2 => ?_⟩
            have f2 := Same.upd (o := .tup [V.int (0 + (j : Int)), V.int (0 + (k : Int))]) hq2
            have ev9 := f2 _ _ ev8
            have eo9 := f2 _ _ eo8
            have u9 := u8.trans f2.t (w := v)
            walk_at "rd"
            refine rd_inP upd_same (it8.same f2) ?_
            rw [hjk, gp]
            generalize upd H8 q2 (.tup [V.int (0 + (j : Int)), V.int (0 + (k : Int))]) = H9 at ev9 eo9 u9
            walk_at "rd"
            refine rd_ixL ev9 (atI_of (i := k) (by omega) (getD_map (by omega))) ?_
            walk_at "rd"
            refine rd_ixL ev9 (atI_of (i := j) (by omega) (getD_map (by omega))) ?_
            walk_at "rd"
            have eI : lsI ps st j k = [(j, k, (st) * (if j = k then 0 else 1))] := by unfold lsI lsV; rw [gp]; rfl
            rw [eI]
            by_cases e : j = k
            · subst e
              have eB : (!((0 : Int) + (j : Int) == 0 + (j : Int))) = false := by simp
              rw [eB]
              walk_at "rd"
              refine rd_I (.inr ⟨by decide, by decide⟩) ?_
              walk_at "rd"
              refine rd_setL ev9 (j := j) (by omega) (by rw [List.length_map]; omega) ?_
              walk_at "rd"
              refine ⟨fun c u e g => by rw [upd_ne g]; exact u9 _ _ e g, ⟨_, _, rfl⟩, ?_⟩
              rw [upd_same, set_map, if_pos rfl]
              rfl
            · have eB : (!((0 : Int) + (j : Int) == 0 + (k : Int))) = true := by simp; omega
              rw [eB]
              walk_at "rd"
              refine rd_I (.inr ⟨by decide, by decide⟩) ?_
              walk_at "rd"
              refine rd_setL ev9 (j := k) (by omega) (by rw [List.length_map]; omega) ?_
              walk_at "rd"
              refine ⟨fun c u e g => by rw [upd_ne g]; exact u9 _ _ e g, ⟨_, _, rfl⟩, ?_⟩
              rw [upd_same, set_map, if_neg e]
              rfl
          | false =>
            walk_at "rd"
            refine ⟨by show 2 ≤ sizeLine; decide, fun q2 hq2 => ?_⟩
            have f2 := Same.upd (o := .tup [V.int (0 + (j : Int)), V.int (0 + (k : Int))]) hq2
            have ev9 := f2 _ _ ev8
            have eo9 := f2 _ _ eo8
            have it9 := it8.same f2
            have u9 := u8.trans f2.t (w := v)
            have eq2 : upd H8 q2 (.tup [V.int (0 + (j : Int)), V.int (0 + (k : Int))]) q2 = some (.tup [V.int (0 + (j : Int)), V.int (0 + (k : Int))]) := upd_same
            generalize upd H8 q2 (.tup [V.int (0 + (j : Int)), V.int (0 + (k : Int))]) = H9 at ev9 eo9 u9 it9 eq2
            walk_at "rd"
            refine rd_inP eq2 it9 ?_
            rw [hjk, gp]
            walk_at "rd"
            refine ⟨by show 2 ≤ sizeLine; decide, fun q3 hq3 => ?_⟩
            have f3 := Same.upd (o := .tup [V.int (0 + (k : Int)), V.int (0 + (j : Int))]) hq3
            have ev10 := f3 _ _ ev9
            have eo10 := f3 _ _ eo9
            have u10 := u9.trans f3.t (w := v)
            walk_at "rd"
            refine rd_ninP upd_same (it9.same f3) ?_
            rw [hkj]
            generalize upd H9 q3 (.tup [V.int (0 + (k : Int)), V.int (0 + (j : Int))]) = H10 at ev10 eo10 u10
            cases gq : has ps k j with
            | true =>
              have eI : lsI ps st j k = [] := by unfold lsI; rw [gp, gq]; rfl
              rw [eI]
              walk_at "rd"
              exact ⟨u10, ⟨_, _, rfl⟩, ev10⟩
            | false =>
              walk_at "rd"
              refine rd_ixL ev10 (atI_of (i := k) (by omega) (getD_map (by omega))) ?_
              walk_at "rd"
              refine rd_ixL ev10 (atI_of (i := j) (by omega) (getD_map (by omega))) ?_
              walk_at "rd"
              have eI : lsI ps st j k = [(j, k, (1 - st) * (if j = k then 0 else 1))] := by unfold lsI lsV; rw [gp, gq]; rfl
              rw [eI]
              by_cases e : j = k
              · subst e
                have eB : (!((0 : Int) + (j : Int) == 0 + (j : Int))) = false := by simp
                rw [eB]
                walk_at "rd"
                refine rd_I (.inr ⟨by decide, by decide⟩) ?_
                walk_at "rd"
                refine rd_setL ev10 (j := j) (by omega) (by rw [List.length_map]; omega) ?_
                walk_at "rd"
                refine ⟨fun c u e g => by rw [upd_ne g]; exact u10 _ _ e g, ⟨_, _, rfl⟩, ?_⟩
                rw [upd_same, set_map, if_pos rfl]
                rfl
              · have eB : (!((0 : Int) + (j : Int) == 0 + (k : Int))) = true := by simp; omega
                rw [eB]
                walk_at "rd"
                refine rd_I (.inr ⟨by decide, by decide⟩) ?_
                walk_at "rd"
                refine rd_setL ev10 (j := k) (by omega) (by rw [List.length_map]; omega) ?_
                walk_at "rd"
                refine ⟨fun c u e g => by rw [upd_ne g]; exact u10 _ _ e g, ⟨_, _, rfl⟩, ?_⟩
                rw [upd_same, set_map, if_neg e]
                rfl
        · rintro σ H7 ⟨u7, ⟨x6, x7, rfl⟩, ev7⟩
          exact ⟨u7, ⟨_, _, _, rfl⟩, by rw [lsAll_succ]; exact ev7⟩
      · rintro σ H6 ⟨u6, ⟨w5, w6, w7, rfl⟩, ev6⟩
        have s6 := s5.trans u6
        have ek : n + 1 - i = (n + 1 - (i + 1)) + 1 := by omega
        rw [ek, grounds] at hG
        walk_at "rd"
        refine rd_eqL ev6 (u6 _ _ eb5 (Ne.symm nvb)) ?_
        walk_at "rd"
        refine ifB (fun g => ?_) (fun g => ?_)
        · rw [if_pos (of_decide_eq_true g)] at hG
          rw [← hG] at q
          walk_at "rd"
          intro tp htp
          exact q _ ((fin _ s6).trans (Same.upd htp)) tp upd_same
        · rw [if_neg (of_decide_eq_false g)] at hG
          walk_at "rd"
          exact ⟨hi, s6, gr1 (lsAll n ps st n) vals, _, _, _, _, _, rfl, ev6, (gr1_len _ _).trans lv4, hG⟩
    · rintro σ H4 ⟨_, s4, vals, v3, v4, v5, v6, v7, rfl, ev4, lv4, hG⟩
      rw [Nat.sub_self, grounds] at hG
      rw [← hG] at q
      walk_at "rd"
      exact q H4 (fin _ s4)
end
end My

set_option Elab.async false
set_option linter.all false
set_option maxRecDepth 100000
set_option maxHeartbeats 4000000
namespace My
open PySem L2
theorem rot_ne {n a b : Int} (a0 : 0 ≤ a) (a1 : a < n) (b0 : 0 ≤ b) (b1 : b < n - 1) : 0 ≤ (a + 1 + b) % n ∧ (a + 1 + b) % n < n ∧ a ≠ (a + 1 + b) % n := by
  refine ⟨Int.emod_nonneg _ (by omega), Int.emod_lt_of_pos _ (by omega), ?_⟩
  by_cases h : a + 1 + b < n
  · rw [Int.emod_eq_of_lt (by omega) h]
    omega
  · have e : a + 1 + b = (a + 1 + b - n) + n * 1 := by omega
    rw [e, Int.add_mul_emod_self_left, Int.emod_eq_of_lt (by omega) (by omega)]
    omega
noncomputable def outP (q : Int × Int) (ps : List (Int × Int)) : List (Int × Int) := ps.filter fun p => !decide (p = q)
theorem outP_snoc (q p : Int × Int) (ps : List (Int × Int)) : outP q (ps ++ [p]) = outP q ps ++ (if (!decide (p = q)) = true then [p] else []) := by
  unfold outP
  rw [List.filter_append, filter_one]
theorem outP_len (q : Int × Int) (ps : List (Int × Int)) : (outP q ps).length ≤ ps.length := List.length_filter_le _ _
theorem mem_outP {q p : Int × Int} {ps : List (Int × Int)} : p ∈ outP q ps ↔ p ∈ ps ∧ p ≠ q := by
  unfold outP
  rw [List.mem_filter]
  simp
theorem outP_nd {q : Int × Int} {ps : List (Int × Int)} (h : ps.Nodup) : (outP q ps).Nodup := List.Pairwise.filter _ h
theorem nd_snoc {q : Int × Int} {ps : List (Int × Int)} (h : ps.Nodup) (hq : q ∉ ps) : (ps ++ [q]).Nodup := by
  unfold List.Nodup
  rw [List.pairwise_append]
  refine ⟨h, List.pairwise_singleton _ _, fun a ha b hb z => ?_⟩
  rcases List.mem_singleton.mp hb with rfl
  exact hq (z ▸ ha)
theorem pr_get {H : Hp} {ys : List V} {ps : List (Int × Int)} {i : Nat} {x : V} (h : IsAll H ys (ps.map prD)) (e : ys[i]? = some x) : ∃ p, ps[i]? = some p ∧ Is H x (prD p) := by
  obtain ⟨d, ed, id⟩ := h.get' e
  rw [List.getElem?_map] at ed
  cases hpi : ps[i]? with
  | none => rw [hpi] at ed; cases ed
  | some p => rw [hpi] at ed; cases ed; exact ⟨p, rfl, id⟩
theorem rd_ninL {H : Hp} {Q : VK} {p l : Addr} {zs : List V} {i j : Int} {ps : List (Int × Int)} (e : H p = some (.tup [.int i, .int j])) (el : H l = some (.lst zs)) (iz : IsAll H zs (ps.map prD)) (h : Q (.bl (!has ps i j)) H) : rInD true (.ref p) (.ref l) H Q := by
  refine ⟨prD (i, j), ps.map prD, .tup e (.cons (.int i) (.cons (.int j) .nil)), .inr (.lst (.inl el) iz), ok_pr _, ok_prs _, ?_⟩
  rw [inD_pr]
  exact h
theorem at_ints {vals : List Int} {i : Nat} (hi : i < vals.length) : atI (vals.map V.int) ((0 : Int) + (i : Int)) = some (.int (vals.getD i 0)) := by
  refine atI_of (i := i) (by omega) ?_
  exact getD_map hi
theorem ord_tt {H H' : Hp} {tw : Addr} {ts : List V} (hw : H tw = some (.lst ts)) (s : SameT tw H H') {x : V} {n : Nat} {ps : List (Int × Int)} (h : Is H x (ordD n ps)) : Is H' x (ordD n ps) :=
  h.tmono (fun c us e => s _ _ e (ne_of e hw (by intro z; cases z))) (by unfold ordD; rw [noL, noLs, noLs, noLs, noL, noL, noLs_pr]; rfl)
theorem prs_t {H H' : Hp} {tw : Addr} {ts zs : List V} {prs : List (Int × Int)} (hw : H tw = some (.lst ts)) (s : SameT tw H H') (h : IsAll H zs (prs.map prD)) : IsAll H' zs (prs.map prD) :=
  h.tmono (fun c us e => s _ _ e (ne_of e hw (by intro z; cases z))) (noLs_pr _)
section
variable {P : Program} {w : World} {K : PySem.W.Frag} {mg : Str → Option Value} {base : Heap} {t : Ad}
noncomputable def sp_by : Sp := fun vs H Q _ => ∃ (p : Addr) (vals : List Int) (st : Int), vs = [.int st, .ref p] ∧ H p = some (.lst (vals.map V.int)) ∧ vals.length ≤ 8 ∧ ∀ x H', Same H H' → Is H' x (ordD vals.length (toldL st vals)) → Q x H'
theorem ok__law_by (T : Txt K mg t) : FnOk P w K mg base CX0 1 t.a__law_by t.d__law_by ["_law_step", "_law_longs"] sp_by := by
  refine T.F__law_by.ok sc__law_by (fun vs H Q E h => ?_) (fun cdv A outer s H vs Q E hr h => ?_)
  · obtain ⟨p, vals, st, rfl, _⟩ := h
    rfl
  · obtain ⟨p, vals, st, rfl, ep, l8, q⟩ := h
    refine ⟨_, (pss_cons (ps_set (i := 2) sc__law_by.nd rfl (Or.inl rfl) (pe_lst pa_nil))
      (pss_cons (ps_for PassesOwn.never rfl (pi_range1 rfl T.n_range (pa_cons (pe_callB (k_len K) (by rfl) T.n_len bt_len (pa_cons (pv 1) pa_nil)) pa_nil)) (pg_name (i := 3) sc__law_by.nd rfl (Or.inl rfl)) (pss_one (ps_for PassesOwn.never rfl (pi_range1 rfl T.n_range (pa_cons (pe_callB (k_len K) (by rfl) T.n_len bt_len (pa_cons (pv 1) pa_nil)) pa_nil)) (pg_name (i := 4) sc__law_by.nd rfl (Or.inl rfl)) (pss_one (ps_if (pt_cmpR (op_ge) (pe_ix (k_ix K) (pv 1) (pv 4) (fun _ _ => rfl)) (pe_op op_add (pe_ix (k_ix K) (pv 1) (pv 3) (fun _ _ => rfl)) (pv 0)) (nomark _)) (pss_one (ps_expr (k_bm K PySem.F.plainAttrs_list PySem.F.slot_list_append PySem.F.type_list_append mt_append (pv 2) (pa_cons (pe_tup (pa_cons (pv 3) (pa_cons (pv 4) pa_nil))) pa_nil)))) pss_nil)))))
      (pss_one (ps_ret (pe_tup (pa_cons (pe_callB (k_len K) (by rfl) T.n_len bt_len (pa_cons (pv 1) pa_nil)) (pa_cons (pe_callTy (k_tuple K) (by rfl) T.n_tuple bt_tuple (pa_cons (pv 2) pa_nil)) pa_nil))))))), ?_⟩
    have ln : (vals.map V.int).length = vals.length := List.length_map _
    walk_at "rd"
    refine ⟨Nat.zero_le _, fun r hr' => ?_⟩
    have s0 := Same.upd (o := .lst []) hr'
    have ep0 := s0 _ _ ep
    walk_at "rd"
    refine ⟨_, rfl, by omega, by omega, ?_⟩
    rw [ln, Int.toNat_natCast]
    refine fp_range (fun i σ H' => (∃ v3 v4, σ = [some (.int st), some (.ref p), some (.ref r), v3, v4]) ∧ Same H H' ∧ ∃ zs, H' r = some (.lst zs) ∧ IsAll H' zs ((tlAll st vals i).map prD)) ⟨⟨_, _, rfl⟩, s0, [], upd_same, .nil⟩ ?_ ?_
    · rintro i σ H1 hi ⟨⟨v3, v4, rfl⟩, s1, zs, hz, iz⟩
      have ep1 := s1 _ _ ep
      walk_at "rd"
      refine ⟨_, rfl, by omega, by omega, ?_⟩
      rw [ln, Int.toNat_natCast]
      refine fp_range (fun j σ H' => (∃ v4, σ = [some (.int st), some (.ref p), some (.ref r), some (.int (0 + i)), v4]) ∧ Same H H' ∧ ∃ zs, H' r = some (.lst zs) ∧ IsAll H' zs ((tlAll st vals i ++ tlRow st vals i j).map prD)) ⟨⟨_, rfl⟩, s1, zs, hz, by simpa [tlRow] using iz⟩ ?_ ?_
      · rintro j σ H2 hj ⟨⟨v4, rfl⟩, s2, zs2, hz2, iz2⟩
        have ep2 := s2 _ _ ep
        rw [tlRow_succ, ← List.append_assoc, List.map_append]
        walk_at "rd"
        refine rd_ixL ep2 (at_ints hj) ?_
        walk_at "rd"
        refine rd_ixL ep2 (at_ints hi) ?_
        walk_at "rd"
        refine ifB (fun g => ?_) (fun g => ?_)
        · have g' := of_decide_eq_true g
          have e1 : tlI st vals i j = [((i : Int), (j : Int))] := by unfold tlI; rw [if_pos (by omega)]
          rw [e1]
          have lz : zs2.length ≤ 200 := by
            rw [iz2.length, List.length_map, List.length_append]
            have h1 := tlAll_len st vals i
            have h2 := tlRow_len st vals i j
            have h3 : i * vals.length ≤ 8 * 8 := Nat.mul_le_mul (by omega) l8
            omega
          walk_at "rd"
          refine ⟨tyV_lst hz2, ?_⟩
          walk_at "rd"
          refine ⟨by show 2 ≤ sizeLine; decide, fun o ho => ?_⟩
          have hro : r ≠ o := ne_of_none hz2 ho
          walk_at "rd"
          refine rd_append (xs := zs2) (by rw [upd_ne hro]; exact hz2) (small1000 (by omega)) ?_
          walk_at "rd"
          refine ⟨⟨_, rfl⟩, fun c u e => ?_, _, upd_same, ?_⟩
          · have e3 := s2 c u e
            rw [upd_ne (ne_of_none e hr'), upd_ne (ne_of_none e3 ho)]
            exact e3
          · rw [Int.zero_add, Int.zero_add]
            refine grow (noLs_pr _) hz2 ho iz2 (.tup ?_ (.cons (.int _) (.cons (.int _) .nil)))
            rw [upd_ne (Ne.symm hro), upd_same]
        · have g' := of_decide_eq_false g
          have e1 : tlI st vals i j = [] := by unfold tlI; rw [if_neg (by omega)]
          rw [e1]
          walk_at "rd"
          exact ⟨⟨_, rfl⟩, s2, zs2, hz2, by simpa using iz2⟩
      · rintro σ H2 ⟨⟨v4, rfl⟩, s2, zs2, hz2, iz2⟩
        exact ⟨⟨_, _, rfl⟩, s2, zs2, hz2, by rw [tlAll_succ]; exact iz2⟩
    · rintro σ H1 ⟨⟨v3, v4, rfl⟩, s1, zs, hz, iz⟩
      have ep1 := s1 _ _ ep
      walk_at "rd"
      rw [ln]
      intro tp htp
      have f1 := Same.upd (o := .tup zs) htp
      walk_at "rd"
      refine ⟨by show 2 ≤ sizeLine; decide, fun o ho => ?_⟩
      have f2 := Same.upd (o := .tup [V.int (vals.length : Nat), V.ref tp]) ho
      have nto : tp ≠ o := ne_of_none upd_same ho
      refine q _ _ ((s1.trans f1).trans f2) ?_
      exact .tup upd_same (.cons (.int _) (.cons (.tup (by rw [upd_ne nto, upd_same]) ((iz.same f1).same f2)) .nil))
noncomputable def sp_order (K : PySem.W.Frag) : Sp := fun vs H Q _ => ∃ a ns tw ts, vs = [.ref a, .ref tw, .int 8] ∧ Scr K H a ns ∧ H tw = some (.lst ts) ∧ ts.length ≤ 100 ∧
  ∀ x H' n ps ts', SameT tw H H' → H' tw = some (.lst ts') → ts'.length ≤ ts.length + 60 → Ord n ps → Is H' x (ordD n ps) → Q x H'
theorem ok__law_order (T : Txt K mg t) : FnOk P w K mg base CX0 5 t.a__law_order t.d__law_order ["_law_script", "_law_town", "_law_most"] (sp_order K) := by
  refine T.F__law_order.ok sc__law_order (fun vs H Q E h => ?_) (fun cdv A outer s H vs Q E hr h => ?_)
  · obtain ⟨a, ns, tw, ts, rfl, _⟩ := h
    rfl
  · obtain ⟨a, ns, tw, ts, rfl, hs, ht, hl, q⟩ := h
    refine ⟨_, (pss_cons (ps_set (i := 3) sc__law_order.nd rfl (Or.inl rfl) (pe_op op_add pe_int (pe_call (ok__law_draw T) (hr.mono (by decide)) rfl T.m__law_draw T.F__law_draw.kp T.b__law_draw .nil pass0 (pa_cons (pv 0) (pa_cons (pv 1) (pa_cons (pv 2) pa_nil))))))
      (pss_cons (ps_set_lc (i := 5) sc__law_order.nd rfl rfl rfl rfl ⟨True.intro, True.intro, True.intro, True.intro, (.inl rfl), (.inl rfl), True.intro⟩ (M := ["_law_k", "_law_script", "_law_town"]) (.own (.free 0 rfl rfl (.free 1 rfl rfl .nil))) (gk_name rfl) rfl (by decide +kernel) (pi_range1 rfl T.n_range (pa_cons (pv 3) pa_nil)) (fun C fp s1 H1 => ⟨pg_name (i := 0) (show (["_law_k", "_law_script", "_law_town"] : List Str).Nodup by decide +kernel) rfl (Or.inl rfl), pif_nil, (pe_call (ok__law_draw T) (hr.mono (by decide)) rfl T.m__law_draw T.F__law_draw.kp T.b__law_draw .nil pass0 (pa_cons (pv 1) (pa_cons (pv 2) (pa_cons (pe_call (ok__law_pick T) (hr.mono (by decide)) rfl T.m__law_pick T.F__law_pick.kp T.b__law_pick .nil pass0 (pa_cons (pv 1) (pa_cons (pv 2) (pa_cons (pe_lst (pa_cons pe_int (pa_cons pe_int (pa_cons pe_int pa_nil)))) pa_nil)))) pa_nil))))⟩))
      (pss_cons (ps_set (i := 6) sc__law_order.nd rfl (Or.inl rfl) (pe_call (ok__law_by T) (hr.mono (by decide)) rfl T.m__law_by T.F__law_by.kp T.b__law_by .nil pass0 (pa_cons (pe_op op_add pe_int (pe_call (ok__law_draw T) (hr.mono (by decide)) rfl T.m__law_draw T.F__law_draw.kp T.b__law_draw .nil pass0 (pa_cons (pv 0) (pa_cons (pv 1) (pa_cons (pe_call (ok__law_pick T) (hr.mono (by decide)) rfl T.m__law_pick T.F__law_pick.kp T.b__law_pick .nil pass0 (pa_cons (pv 0) (pa_cons (pv 1) (pa_cons (pe_lst (pa_cons pe_int (pa_cons pe_int (pa_cons pe_int pa_nil)))) pa_nil)))) pa_nil))))) (pa_cons (pv 5) pa_nil))))
      (pss_cons (ps_if (PW.pt (pw_or (pt_cmpR (op_eqD hr.units) (pv 3) pe_int (nomark _)) (pw_or1 (pt_cmpR (op_eqD hr.units) (pe_call (ok__law_draw T) (hr.mono (by decide)) rfl T.m__law_draw T.F__law_draw.kp T.b__law_draw .nil pass0 (pa_cons (pv 0) (pa_cons (pv 1) (pa_cons pe_int pa_nil)))) pe_int (nomark _))))) (pss_one (ps_ret (pv 6))) pss_nil)
      (pss_cons (ps_set (i := 7) sc__law_order.nd rfl (Or.inl rfl) (pe_callTy (k_list K) (by rfl) T.n_list bt_list (pa_cons (pe_ix (k_ix K) (pv 6) pe_int (fun _ _ => rfl)) pa_nil)))
      (pss_cons (ps_for PassesOwn.never rfl (pi_range1 rfl T.n_range (pa_cons (pe_op op_add pe_int (pe_call (ok__law_draw T) (hr.mono (by decide)) rfl T.m__law_draw T.F__law_draw.kp T.b__law_draw .nil pass0 (pa_cons (pv 0) (pa_cons (pv 1) (pa_cons pe_int pa_nil))))) pa_nil)) (pg_name (i := 4) sc__law_order.nd rfl (Or.inl rfl)) (pss_cons (ps_set (i := 8) sc__law_order.nd rfl (Or.inr rfl) (pe_call (ok__law_draw T) (hr.mono (by decide)) rfl T.m__law_draw T.F__law_draw.kp T.b__law_draw .nil pass0 (pa_cons (pv 0) (pa_cons (pv 1) (pa_cons (pv 3) pa_nil)))))
      (pss_cons (ps_set (i := 9) sc__law_order.nd rfl (Or.inr rfl) (pe_op op_mod (pe_op op_add (pe_op op_add (pv 8) pe_int) (pe_call (ok__law_draw T) (hr.mono (by decide)) rfl T.m__law_draw T.F__law_draw.kp T.b__law_draw .nil pass0 (pa_cons (pv 0) (pa_cons (pv 1) (pa_cons (pe_op op_sub (pv 3) pe_int) pa_nil))))) (pv 3)))
      (pss_one (ps_set (i := 7) sc__law_order.nd rfl (Or.inl rfl) (pe_op op_cat (pe_lc rfl ⟨True.intro, True.intro, (.inl rfl), (.inl rfl), True.intro⟩ (M := ["_law_pair", "_law_one", "_law_other"]) (.own (.free 8 rfl rfl (.free 9 rfl rfl .nil))) (gk_name rfl) rfl (by decide +kernel) (k_plst K (pv 7)) (fun C fp s1 H1 => ⟨pg_name (i := 0) (show (["_law_pair", "_law_one", "_law_other"] : List Str).Nodup by decide +kernel) rfl (Or.inl rfl), pif_one (pt_cmpR (op_neD hr.units) (pv 0) (pe_tup (pa_cons (pv 1) (pa_cons (pv 2) pa_nil))) (nomark _)), (pv 0)⟩)) (pe_op op_rep (pe_lst (pa_cons (pe_tup (pa_cons (pv 8) (pa_cons (pv 9) pa_nil))) pa_nil)) (pe_callTy c_int (by rfl) T.n_int bt_int (pa_cons (pe_cmpR (op_notInD hr.units) (pe_tup (pa_cons (pv 8) (pa_cons (pv 9) pa_nil))) (pv 7) (by rfl)) pa_nil)))))))))
      (pss_one (ps_ret (pe_tup (pa_cons (pv 3) (pa_cons (pe_callTy (k_tuple K) (by rfl) T.n_tuple bt_tuple (pa_cons (pe_callB (k_sorted K) (by rfl) T.n_sorted bt_sorted (pa_cons (pv 7) pa_nil)) pa_nil)) pa_nil))))))))))), ?_⟩
    walk_at "rd"
    refine ⟨a, ns, tw, ts, 8, rfl, hs, ht, by omega, by decide, fun r0 H1 ts1 s1 ht1 hl1 r00 r08 => ?_⟩
    obtain ⟨n, hn⟩ : ∃ n : Nat, 1 + r0 = (n : Int) := ⟨(1 + r0).toNat, by omega⟩
    have hs1 := hs.t ht s1
    walk_at "rd"
    rw [hn]
    refine ⟨_, rfl, by omega, by omega, ?_⟩
    rw [Int.toNat_natCast]
    refine lp_range (small_ln (by omega)) (fun i ys H' => SameT tw H1 H' ∧ (∃ ts', H' tw = some (.lst ts') ∧ ts'.length ≤ ts.length + 1 + 2 * i) ∧ ∃ vals : List Int, ys = vals.map V.int ∧ vals.length = i) ⟨SameT.refl _ _, ⟨ts1, ht1, by omega⟩, [], rfl, rfl⟩ (by
      rintro i ys H' ⟨_, _, vals, rfl, h⟩
      rw [List.length_map]
      omega) ?_ ?_
    · rintro i ys H2 hi ⟨s2, ⟨ts2, ht2, hl2⟩, vals, rfl, lv⟩
      have hs2 := hs1.t ht1 s2
      walk_at "rd"
      refine ⟨by show 3 ≤ sizeLine; decide, fun q1 hq1 => ?_⟩
      have f1 := Same.upd (o := .lst [V.int 6, V.int 10, V.int 20]) hq1
      have n1 : q1 ≠ tw := fun z => by rw [z, ht2] at hq1; cases hq1
      walk_at "rd"
      refine ⟨a, ns, tw, ts2, q1, _, rfl, hs2.same f1, f1 _ _ ht2, by omega, upd_same, n1, by show 0 < 3; decide, fun v H3 ts3 s3 ht3 hl3 hv => ?_⟩
      obtain ⟨m, rfl, m0⟩ : ∃ m : Int, v = .int m ∧ 0 < m := by
        simp only [List.mem_cons, List.not_mem_nil, or_false] at hv
        rcases hv with rfl | rfl | rfl
        · exact ⟨_, rfl, by decide⟩
        · exact ⟨_, rfl, by decide⟩
        · exact ⟨_, rfl, by decide⟩
      have s13 := (s2.trans f1.t).trans s3
      walk_at "rd"
      refine ⟨a, ns, tw, ts3, m, rfl, hs1.t ht1 s13, ht3, by omega, m0, fun r4 H4 ts4 s4 ht4 hl4 _ _ => ?_⟩
      exact ⟨s13.trans s4, ⟨ts4, ht4, by omega⟩, vals ++ [r4], by rw [List.map_append]; rfl, by rw [List.length_append, lv]; rfl⟩
    · rintro ys H2 ⟨s2, ⟨ts2, ht2, hl2⟩, vals, rfl, lv⟩ pl hpl
      have f0 := Same.upd (o := .lst (vals.map V.int)) hpl
      have npl : pl ≠ tw := fun z => by rw [z, ht2] at hpl; cases hpl
      have s3 := (s1.trans s2).trans f0.t
      have hs3 := hs.t ht s3
      have ht3 := f0 _ _ ht2
      have el3 : upd H2 pl (.lst (vals.map V.int)) pl = some (.lst (vals.map V.int)) := upd_same
      generalize upd H2 pl (.lst (vals.map V.int)) = H3 at s3 hs3 ht3 el3
      clear s2 ht2 f0 hpl hs1 s1 ht1 hl1
      have n8 : n ≤ 8 := by omega
      have n1 : 1 ≤ n := by omega
      walk_at "rd"
      refine ⟨by show 3 ≤ sizeLine; decide, fun q1 hq1 => ?_⟩
      have f1 := Same.upd (o := .lst [V.int 3, V.int 6, V.int 12]) hq1
      have nq1 : q1 ≠ tw := fun z => by rw [z, ht3] at hq1; cases hq1
      walk_at "rd"
      refine ⟨a, ns, tw, ts2, q1, _, rfl, hs3.same f1, f1 _ _ ht3, by omega, upd_same, nq1, by show 0 < 3; decide, fun v H4 ts4 s4 ht4 hl4 hv => ?_⟩
      obtain ⟨m, rfl, m0⟩ : ∃ m : Int, v = .int m ∧ 0 < m := by
        simp only [List.mem_cons, List.not_mem_nil, or_false] at hv
        rcases hv with rfl | rfl | rfl
        · exact ⟨_, rfl, by decide⟩
        · exact ⟨_, rfl, by decide⟩
        · exact ⟨_, rfl, by decide⟩
      have s34 := f1.t.trans s4 (w := tw)
      have hs4 := hs3.t ht3 s34
      have el4 := s34 _ _ el3 npl
      have sH4 := s3.trans s34
      walk_at "rd"
      refine ⟨a, ns, tw, ts4, m, rfl, hs4, ht4, by omega, m0, fun r5 H5 ts5 s5 ht5 hl5 r50 r51 => ?_⟩
      have el5 := s5 _ _ el4 npl
      have hs5 := hs4.t ht4 s5
      have sH5 := sH4.trans s5
      walk_at "rd"
      refine ⟨pl, vals, 1 + r5, rfl, el5, by omega, fun x H6 s6 hx => ?_⟩
      rw [lv] at hx
      have ho : Ord n (toldL (1 + r5) vals) := lv ▸ told_ord (by omega) (by omega) (by omega)
      have ht6 := s6 _ _ ht5
      have hs6 := hs5.same s6
      have sH6 := sH5.trans s6.t
      generalize toldL (1 + r5) vals = ps at hx ho
      clear hs3 hs4 hs5 ht3 ht4 ht5 el3 el4 el5 s34 s4 s5 s6 sH4 sH5 f1 s3
      walk_at "rd"
      refine ifB (fun g => ?_) (fun g => ?_)
      · walk_at "rd"
        exact q x H6 n ps ts5 sH6 ht6 (by omega) ho hx
      have nn1 : n ≠ 1 := fun z => by rw [z] at g; exact absurd g (by decide)
      walk_at "rd"
      refine ⟨a, ns, tw, ts5, 2, rfl, hs6, ht6, by omega, by decide, fun r7 H7 ts7 s7 ht7 hl7 _ _ => ?_⟩
      have hx7 := ord_tt ht6 s7 hx
      have hs7 := hs6.t ht6 s7
      have sH7 := sH6.trans s7
      walk_at "rd"
      refine ifB (fun g => ?_) (fun g => ?_)
      · walk_at "rd"
        exact q x H7 n ps ts7 sH7 ht7 (by omega) ho hx7
      obtain ⟨oa, ob, xs, rfl, ea, eb, hxs⟩ := is_ord hx7
      have lxs : xs.length = ps.length := by rw [hxs.length, List.length_map]
      clear hx hs6 ht6 sH6 s7
      walk_at "rd"
      refine rd_lstT eb fun l hl' => ?_
      have f8 := Same.upd (o := .lst xs) hl'
      have nl : l ≠ tw := fun z => by rw [z, ht7] at hl'; cases hl'
      have ht8 := f8 _ _ ht7
      have hs8 := hs7.same f8
      have ix8 := hxs.same f8
      have el8 : upd H7 l (.lst xs) l = some (.lst xs) := upd_same
      have sH8 := sH7.trans f8.t
      generalize upd H7 l (.lst xs) = H8 at ht8 hs8 ix8 el8 sH8
      clear hs7 ht7 hxs ea eb f8 sH7
      walk_at "rd"
      refine ⟨a, ns, tw, ts7, 3, rfl, hs8, ht8, by omega, by decide, fun r9 H9 ts9 s9 ht9 hl9 r90 r91 => ?_⟩
      have hs9 := hs8.t ht8 s9
      have el9 := s9 _ _ el8 nl
      have ix9 := prs_t ht8 s9 ix8
      have sH9 := sH8.trans s9
      walk_at "rd"
      refine ⟨_, rfl, by omega, by omega, ?_⟩
      refine fp_range (fun i σ H' => ∃ (l : Addr) (zs : List V) (prs : List (Int × Int)) (v4 v8 v9 : Option V), σ = [some (.ref a), some (.ref tw), some (.int 8), some (.int n), v4, some (.ref pl), some (.ref oa), some (.ref l), v8, v9] ∧ SameT tw H H' ∧ Scr K H' a ns ∧ (∃ ts', H' tw = some (.lst ts') ∧ ts'.length ≤ ts.length + 40 + 2 * i) ∧ l ≠ tw ∧ H' l = some (.lst zs) ∧ IsAll H' zs (prs.map prD) ∧ prs.Nodup ∧ ∀ p ∈ prs, inN n p)
        ⟨l, xs, ps, _, _, _, rfl, sH9, hs9, ⟨ts9, ht9, by omega⟩, nl, el9, ix9, nd_of (pw_of ho.up), ho.ix⟩ ?_ ?_
      · rintro i σ G0 hi ⟨l, zs, prs, v4, v8, v9, rfl, sG, hsG, ⟨tg, htg, hlg⟩, nl, el, iz, nd, hin⟩
        walk_at "rd"
        refine ⟨a, ns, tw, tg, n, rfl, hsG, htg, by omega, by omega, fun ra G1 tg1 sg1 htg1 hlg1 ra0 ra1 => ?_⟩
        have hsG1 := hsG.t htg sg1
        walk_at "rd"
        refine ⟨a, ns, tw, tg1, _, rfl, hsG1, htg1, by omega, by omega, fun rb G2 tg2 sg2 htg2 hlg2 rb0 rb1 => ?_⟩
        obtain ⟨o1, o2, o3⟩ := rot_ne ra0 ra1 rb0 rb1
        have hsG2 := hsG1.t htg1 sg2
        have el2 := sg2 _ _ (sg1 _ _ el nl) nl
        have iz2 := prs_t htg1 sg2 (prs_t htg sg1 iz)
        have sG2 := (sG.trans sg1).trans sg2
        walk_at "rd"
        refine ⟨_, _, rfl, rfl, by omega, ?_⟩
        dsimp only
        generalize (ra + 1 + rb) % (n : Int) = rc at o1 o2 o3 ⊢
        have lz : zs.length = prs.length := by rw [iz.length, List.length_map]
        have lp64 := small_prs nd fun p hp => (hin p hp).box n8
        walk_at "rd"
        refine ⟨l, rfl, ⟨_, SqL.of el2⟩, ?_⟩
        refine lp_list (K := K) (xs := zs) (small_ln (by omega)) (fun j ys H' => Same G2 H' ∧ IsAll H' ys ((outP (ra, rc) (prs.take j)).map prD)) ⟨Same.refl _, .nil⟩ (by
          rintro j ys H' ⟨_, h⟩
          rw [h.length, List.length_map]
          have := outP_len (ra, rc) (prs.take j)
          rw [List.length_take] at this
          omega) (fun j ys H' _ h => SqL.of (h.1 _ _ el2)) ?_ ?_
        · rintro j x ys G3 hx ⟨s3, iy⟩
          obtain ⟨p0, hp0, ip0⟩ := pr_get (iz2.same s3) hx
          rw [List.take_add_one, hp0, show (some p0).toList = [p0] from rfl, outP_snoc, List.map_append]
          walk_at "rd"
          refine ⟨by show 2 ≤ sizeLine; decide, fun p hp => ?_⟩
          have s8 := Same.upd (o := .tup [V.int ra, V.int rc]) hp
          refine rd_eqD (d := prD p0) (e := prD (ra, rc)) (ip0.same s8) (.tup upd_same (.cons (.int _) (.cons (.int _) .nil))) (ok_pr _) (ok_pr _) ?_
          rw [eqv_pr]
          walk_at "rd"
          refine ifB (fun g => ?_) (fun g => ?_)
          · walk_at "rd"
            have g' : (!decide (p0 = (ra, rc))) = true := g
            rw [if_pos g']
            exact ⟨s3.trans s8, (iy.same s8).append (.cons (ip0.same s8) .nil)⟩
          · have g' : (!decide (p0 = (ra, rc))) = false := g
            rw [if_neg (by rw [g']; exact Bool.false_ne_true), List.map_nil, List.append_nil]
            exact ⟨s3.trans s8, iy.same s8⟩
        · rintro ys G3 ⟨s3, iy⟩ p4 hp4
          rw [lz, List.take_length] at iy
          have f4 := Same.upd (o := .lst ys) hp4
          have s34 := s3.trans f4
          have iy4 := iy.same f4
          have e4 : upd G3 p4 (.lst ys) p4 = some (.lst ys) := upd_same
          generalize upd G3 p4 (.lst ys) = G4 at s34 iy4 e4
          have ly : ys.length ≤ 64 := by
            rw [iy.length, List.length_map]
            have := outP_len (ra, rc) prs
            omega
          clear s3 iy f4
          walk_at "rd"
          refine ⟨by show 2 ≤ sizeLine; decide, fun p5 hp5 => ?_⟩
          have f5 := Same.upd (o := .tup [V.int ra, V.int rc]) hp5
          have e5 : upd G4 p5 (.tup [V.int ra, V.int rc]) p5 = some (.tup [V.int ra, V.int rc]) := upd_same
          have e45 := f5 _ _ e4
          have iy5 := iy4.same f5
          have s35 := s34.trans f5
          generalize upd G4 p5 (.tup [V.int ra, V.int rc]) = G5 at e5 e45 iy5 s35
          walk_at "rd"
          refine ⟨by show 1 ≤ sizeLine; decide, fun p6 hp6 => ?_⟩
          have f6 := Same.upd (o := .lst [V.ref p5]) hp6
          have e6 : upd G5 p6 (.lst [V.ref p5]) p6 = some (.lst [V.ref p5]) := upd_same
          have e46 := f6 _ _ e45
          have e56 := f6 _ _ e5
          have iy6 := iy5.same f6
          have s36 := s35.trans f6
          generalize upd G5 p6 (.lst [V.ref p5]) = G6 at e6 e46 e56 iy6 s36
          walk_at "rd"
          refine ⟨by show 2 ≤ sizeLine; decide, fun p7 hp7 => ?_⟩
          have f7 := Same.upd (o := .tup [V.int ra, V.int rc]) hp7
          have e7 : upd G6 p7 (.tup [V.int ra, V.int rc]) p7 = some (.tup [V.int ra, V.int rc]) := upd_same
          have e47 := f7 _ _ e46
          have e57 := f7 _ _ e56
          have e67 := f7 _ _ e6
          have iy7 := iy6.same f7
          have s37 := s36.trans f7
          generalize upd G6 p7 (.tup [V.int ra, V.int rc]) = G7 at e7 e47 e57 e67 iy7 s37
          clear e4 e5 e45 iy4 iy5 s34 s35 f5 f6 f7 e6 e46 e56 iy6 s36
          walk_at "rd"
          refine rd_ninL e7 (s37 _ _ el2) (iz2.same s37) ?_
          have htg7 := s37 _ _ htg2
          have nd1 := outP_nd (q := (ra, rc)) nd
          have in1 : ∀ p ∈ outP (ra, rc) prs, inN n p := fun p hp => hin p (mem_outP.mp hp).1
          cases gh : has prs ra rc with
          | true =>
            walk_at "rd"
            refine rd_rep (n := 0) e67 (by decide) fun p8 hp8 => ?_
            have f8 := Same.upd (o := .lst (List.replicate 0 (V.ref p5))) hp8
            refine rd_cat (f8 _ _ e47) upd_same (small_ln (by rw [List.length_replicate]; omega)) fun p9 hp9 => ?_
            have f9 := f8.trans (Same.upd (o := .lst (ys ++ List.replicate 0 (V.ref p5))) hp9)
            have np9 : p9 ≠ tw := fun z => by rw [z, f8 _ _ htg7] at hp9; cases hp9
            walk_at "rd"
            refine ⟨p9, _, outP (ra, rc) prs, _, _, _, rfl, (sG2.trans s37.t).trans f9.t, (hsG2.same s37).same f9, ⟨tg2, f9 _ _ htg7, by omega⟩, np9, upd_same, ?_, nd1, in1⟩
            rw [List.replicate_zero, List.append_nil]
            have := iy7.same f9
            rw [List.replicate_zero, List.append_nil] at this
            exact this
          | false =>
            walk_at "rd"
            refine rd_rep (n := 1) e67 (by decide) fun p8 hp8 => ?_
            have f8 := Same.upd (o := .lst (List.replicate 1 (V.ref p5))) hp8
            refine rd_cat (f8 _ _ e47) upd_same (small_ln (by rw [List.length_replicate]; omega)) fun p9 hp9 => ?_
            have f9 := f8.trans (Same.upd (o := .lst (ys ++ List.replicate 1 (V.ref p5))) hp9)
            have np9 : p9 ≠ tw := fun z => by rw [z, f8 _ _ htg7] at hp9; cases hp9
            walk_at "rd"
            refine ⟨p9, _, outP (ra, rc) prs ++ [(ra, rc)], _, _, _, rfl, (sG2.trans s37.t).trans f9.t, (hsG2.same s37).same f9, ⟨tg2, f9 _ _ htg7, by omega⟩, np9, upd_same, ?_, nd_snoc nd1 fun z => (mem_outP.mp z).2 rfl, fun p hp => ?_⟩
            · rw [List.map_append]
              exact (iy7.same f9).append (.cons (.tup (f9 _ _ e57) (.cons (.int _) (.cons (.int _) .nil))) .nil)
            · rcases List.mem_append.mp hp with h | h
              · exact in1 p h
              · rcases List.mem_singleton.mp h with rfl
                exact ⟨ra0, ra1, o1, o2, o3⟩
      · rintro σ G0 ⟨l, zs, prs, v4, v8, v9, rfl, sG, hsG, ⟨tg, htg, hlg⟩, nl, el, iz, nd, hin⟩
        walk_at "rd"
        refine rd_sortP (.inl el) iz nd (fun p hp => (hin p hp).box n8) fun l2 vs' qs hl2' ha hperm hpw => ?_
        have s4 := Same.upd (o := .lst vs') hl2'
        have ev : upd G0 l2 (.lst vs') l2 = some (.lst vs') := upd_same
        walk_at "rd"
        intro tp htp
        have s5 := Same.upd (o := .tup vs') htp
        walk_at "rd"
        refine ⟨by show 2 ≤ sizeLine; decide, fun o ho' => ?_⟩
        have nto : tp ≠ o := ne_of_none upd_same ho'
        have s6 := Same.upd (o := .tup [V.int n, V.ref tp]) ho'
        have sA := (s4.trans s5).trans s6
        refine q _ _ n qs tg (sG.trans sA.t) (sA _ _ htg) (by omega) (ord_of n1 n8 (fun p hp => hin p (hperm.mem_iff.mp hp)) hpw) ?_
        exact .tup upd_same (.cons (.int _) (.cons (.tup (by rw [upd_ne nto, upd_same]) (((ha.same s4).same s5).same s6)) .nil))
end
end My


set_option Elab.async false
set_option linter.all false
set_option maxRecDepth 100000
set_option maxHeartbeats 4000000
namespace My
open PySem L2
noncomputable def zI (th : List Nat) : List Int := th.map fun (a : Nat) => (a : Int)
theorem nI_z (th : List Nat) : nI th = (zI th).map V.int := by
  unfold nI zI
  rw [List.map_map]
  rfl
theorem zI_at {th : List Nat} {i a : Nat} (h : th[i]? = some a) : (zI th)[i]? = some (a : Int) := by
  unfold zI
  rw [List.getElem?_map, h]
  rfl
theorem zI_len (th : List Nat) : (zI th).length = th.length := List.length_map _
theorem zI_in {n : Nat} {ds : List Dm} (hd : dmOk n ds) {th : List Nat} (h : IsRnd n ds th) : ∀ k ∈ zI th, 0 ≤ k ∧ k < n := fun k hk => by
  obtain ⟨a, ha, rfl⟩ := List.mem_map.mp hk
  have := isRnd_in hd h ha
  exact ⟨by omega, by omega⟩
/-- what round_of tells is a round by the law -/
theorem due_rnd {n : Nat} {ps : List (Int × Int)} {st : Int} {th : List Nat} (h : IsRnd n (dmAll n ps st n) th) : dueB ps st (zI th) = true := by
  obtain ⟨c2, _⟩ := isRnd_len h
  have one : ∀ (i a b : Nat) (k : Int), i < th.length → th[i]? = some a → th[(i + 1) % th.length]? = some b → (a, b, k) ∈ dmAll n ps st n → (dmC ps st (zI th))[i]? = some (some k) := fun i a b k hi h1 h2 h3 => by
    rw [dmC_at (zI_at h1) (by rw [zI_len]; exact zI_at h2)]
    exact congrArg some (mem_dm.mp h3).2.2.2
  unfold dueB
  have e1 : (dmC ps st (zI th)).all (·.isSome) = true := List.all_eq_true.mpr fun o ho => by
    obtain ⟨i, hi⟩ := List.getElem?_of_mem ho
    have hlt : i < th.length := by
      have := (List.getElem?_eq_some_iff.mp hi).1
      rw [dmC_len, zI_len] at this
      exact this
    obtain ⟨a, b, k, h1, h2, h3⟩ := isRnd_next h hlt
    rw [one i a b k hlt h1 h2 h3] at hi
    cases hi
    rfl
  have e2 : nubN (zI th) = (zI th).length := by
    refine nub_nd ?_
    unfold zI List.Nodup
    rw [List.pairwise_map]
    exact (isRnd_nd h).imp fun g z => g (by omega)
  have e3 : 0 < ((dmC ps st (zI th)).map (·.getD 0)).sum := by
    have := isRnd_sum dm_ne h (K := fun i => ((dmC ps st (zI th)).getD i none).getD 0) fun i a b k hi h1 h2 h3 => by
      show k ≤ ((dmC ps st (zI th)).getD i none).getD 0
      rw [List.getD_eq_getElem?_getD, one i a b k hi h1 h2 h3]
      exact Int.le_refl _
    have e : (List.range th.length).map (fun i => ((dmC ps st (zI th)).getD i none).getD 0) = (dmC ps st (zI th)).map (·.getD 0) := by
      refine List.ext_getElem? fun i => ?_
      rw [List.getElem?_map, List.getElem?_map]
      by_cases hi : i < th.length
      · rw [List.getElem?_range hi]
        have hc : i < (dmC ps st (zI th)).length := by rw [dmC_len, zI_len]; exact hi
        rw [List.getElem?_eq_getElem hc]
        show some (((dmC ps st (zI th)).getD i none).getD 0) = some _
        rw [List.getD_eq_getElem?_getD, List.getElem?_eq_getElem hc]
        rfl
      · rw [List.getElem?_eq_none (by simp; omega), List.getElem?_eq_none (by rw [dmC_len, zI_len]; omega)]
        rfl
    rw [e] at this
    exact this
  rw [e1, decide_eq_true e2, decide_eq_true e3, decide_eq_true (show 1 < (zI th).length by rw [zI_len]; omega)]
  rfl
theorem nub_eq {ns : List Int} (h : nubN ns = ns.length) : ∀ a b, a < b → b < ns.length → ns.getD a 0 ≠ ns.getD b 0 := fun a b hab hb e => by
  have := met_dup (fun i => ns.getD i 0) ns.length a b hab hb e
  unfold nubN at h
  omega
theorem sum_map_neg (K : Nat → Int) : ∀ m, sumN (fun j => - K j) m = - sumN K m
  | 0 => rfl
  | m + 1 => by rw [sumN, sumN, sum_map_neg K m]; omega
/-- where there is a round, no numbers -/
theorem due_none {n : Nat} (n1 : 1 ≤ n) {ps : List (Int × Int)} {st : Int} {ns : List Int} (hin : ∀ k ∈ ns, 0 ≤ k ∧ k < n) (h : dueB ps st ns = true) : lv n (dmAll n ps st n) = none := by
  cases e : lv n (dmAll n ps st n) with
  | none => rfl
  | some vals =>
    exfalso
    unfold dueB at h
    simp only [Bool.and_eq_true, decide_eq_true_eq] at h
    obtain ⟨hall, h2, hnub, hsum⟩ := h
    obtain ⟨_, _, sol, _⟩ := lv_some n1 (dmAll_ok n ps st) e
    let y : Nat → Int := fun j => gt vals (ns.getD (j % ns.length) 0).toNat
    let k : Nat → Int := fun j => (dem ps st (ns.getD j 0) (ns.getD ((j + 1) % ns.length) 0)).getD 0
    have hs : ((dmC ps st ns).map (·.getD 0)).sum = sumN k ns.length := by
      rw [← sumN_list]
      unfold dmC
      rw [List.map_map]
      rfl
    have step : ∀ j, j < ns.length → y j ≤ y (j + 1) + - k j := fun j hj => by
      have hm : (j + 1) % ns.length < ns.length := Nat.mod_lt _ (by omega)
      have e1 : ns.getD j 0 = ns[j] := by rw [List.getD_eq_getElem?_getD, List.getElem?_eq_getElem hj]; rfl
      have e2 : ns.getD ((j + 1) % ns.length) 0 = ns[(j + 1) % ns.length] := by rw [List.getD_eq_getElem?_getD, List.getElem?_eq_getElem hm]; rfl
      obtain ⟨a1, a2⟩ := hin ns[j] (List.getElem_mem hj)
      obtain ⟨b1, b2⟩ := hin ns[(j + 1) % ns.length] (List.getElem_mem hm)
      have hd := List.all_eq_true.mp hall _ (List.mem_of_getElem? (dmC_at (ps := ps) (st := st) (List.getElem?_eq_getElem hj) (List.getElem?_eq_getElem hm)))
      cases hk : dem ps st ns[j] ns[(j + 1) % ns.length] with
      | none => rw [hk] at hd; cases hd
      | some kk =>
        have ek : k j = kk := by
          show (dem ps st (ns.getD j 0) (ns.getD ((j + 1) % ns.length) 0)).getD 0 = kk
          rw [e1, e2, hk]
          rfl
        have ey : y j = gt vals ns[j].toNat := by
          show gt vals (ns.getD (j % ns.length) 0).toNat = _
          rw [Nat.mod_eq_of_lt hj, e1]
        have ey2 : y (j + 1) = gt vals ns[(j + 1) % ns.length].toNat := by
          show gt vals (ns.getD ((j + 1) % ns.length) 0).toNat = _
          rw [e2]
        have hne : ns[j].toNat ≠ ns[(j + 1) % ns.length].toNat := fun z => by
          have zz : ns[j] = ns[(j + 1) % ns.length] := by omega
          by_cases q : j + 1 < ns.length
          · have em : (j + 1) % ns.length = j + 1 := Nat.mod_eq_of_lt q
            refine nub_eq hnub j ((j + 1) % ns.length) (by omega) (by omega) ?_
            rw [e1, e2, zz]
          · have em : (j + 1) % ns.length = 0 := by rw [show j + 1 = ns.length by omega, Nat.mod_self]
            refine nub_eq hnub ((j + 1) % ns.length) j (by omega) (by omega) ?_
            rw [e1, e2, zz]
        have t1 : ((ns[j].toNat : Nat) : Int) = ns[j] := Int.toNat_of_nonneg a1
        have t2 : ((ns[(j + 1) % ns.length].toNat : Nat) : Int) = ns[(j + 1) % ns.length] := Int.toNat_of_nonneg b1
        have hmem : (ns[j].toNat, ns[(j + 1) % ns.length].toNat, kk) ∈ dmAll n ps st n :=
          mem_dm.mpr ⟨by show ns[j].toNat < n; omega, by show ns[(j + 1) % ns.length].toNat < n; omega, hne, by show dem ps st ((ns[j].toNat : Nat) : Int) ((ns[(j + 1) % ns.length].toNat : Nat) : Int) = some kk; rw [t1, t2]; exact hk⟩
        have := sol _ hmem
        rw [ek, ey, ey2]
        have this' : gt vals ns[j].toNat + kk ≤ gt vals ns[(j + 1) % ns.length].toNat := this
        omega
    have key := (tele (f := y) (K := fun j => - k j) ns.length step).1
    have e0 : y ns.length = y 0 := by
      show gt vals (ns.getD (ns.length % ns.length) 0).toNat = gt vals (ns.getD (0 % ns.length) 0).toNat
      rw [Nat.mod_self, Nat.zero_mod]
    rw [sum_map_neg, e0] at key
    rw [hs] at hsum
    omega
/-! what is none -/
theorem rnd_out {n : Nat} {ps : List (Int × Int)} {st : Int} {ds : List PyData} {d : PyData} (hd : d ∈ ds) (h : wholeB d 0 ((n : Int) - 1) = false) : rndL n ps st ds = false := by
  unfold rndL unlD
  have : ds.all (fun d => wholeB d 0 ((n : Int) - 1)) = false := by
    cases g : ds.all (fun d => wholeB d 0 ((n : Int) - 1)) with
    | false => rfl
    | true =>
      have := List.all_eq_true.mp g d hd
      rw [h] at this
      cases this
  rw [this]
  rfl
theorem rnd_few {n : Nat} {ps : List (Int × Int)} {st : Int} {ds : List PyData} (h : ds.length < 2) : rndL n ps st ds = false := by
  unfold rndL
  rw [decide_eq_false (show ¬ 2 ≤ ds.length by omega), Bool.false_and, Bool.and_false]
theorem whole_no {k n : Int} (h : k < 0 ∨ n ≤ k) : wholeB (.int k) 0 (n - 1) = false := by
  show (decide (0 ≤ k) && decide (k ≤ n - 1)) = false
  rcases h with h | h
  · rw [decide_eq_false (show ¬ 0 ≤ k by omega)]
    rfl
  · rw [decide_eq_false (show ¬ k ≤ n - 1 by omega), Bool.and_false]
theorem seq_rest {ta tb : TS} {D : Ends} {σ : St} {H : Hp} (C : St → Hp → Prop) (rest : ∀ σ' H', C σ' H' → tb D σ' H') (h : ∀ D' : Ends, D'.rt = D.rt → (∀ σ' H', C σ' H' → D'.nx σ' H') → ta D' σ H) : tSeq ta tb D σ H := h { D with nx := tb D } rfl rest
/-! the heap without the town -/
noncomputable def cut (tw : Addr) (H : Hp) : Hp := fun b => if b = tw then none else H b
theorem cut_sub {tw : Addr} {H : Hp} : Same (cut tw H) H := fun b u e => by
  unfold cut at e
  split at e
  · cases e
  · exact e
theorem cut_same {tw : Addr} {H H' : Hp} (s : SameT tw H H') : Same (cut tw H) (cut tw H') := fun b u e => by
  unfold cut at e ⊢
  split at e
  · cases e
  · rename_i h
    rw [if_neg h]
    exact s _ _ e h
theorem cut_at {tw b : Addr} {H : Hp} {u : HO} (h : b ≠ tw) (e : H b = some u) : cut tw H b = some u := by
  unfold cut
  rw [if_neg h]
  exact e
theorem okDs_nil : okDs [] := ⟨rfl, Nat.zero_le _⟩
theorem okDs_one {d : PyData} {ds : List PyData} (h : okD d) (hs : okDs ds) : okDs (d :: ds) := ⟨by rw [PyData.canLayAll0, h.1, hs.1]; rfl, by rw [PyData.depthAll]; exact Nat.max_le.mpr ⟨h.2, hs.2⟩⟩
theorem okDs_app : ∀ {ds es : List PyData}, okDs ds → okDs es → okDs (ds ++ es)
  | [], _, _, h => h
  | d :: ds, es, h, g => by
    obtain ⟨h1, h2⟩ := h
    rw [PyData.canLayAll0, Bool.and_eq_true] at h1
    rw [PyData.depthAll] at h2
    exact okDs_one ⟨h1.1, Nat.le_trans (Nat.le_max_left _ _) h2⟩ (okDs_app ⟨h1.2, Nat.le_trans (Nat.le_max_right _ _) h2⟩ g)
/-- a list of things in their range -/
noncomputable def IL (n : Nat) (H : Hp) (tw : Addr) (x : V) (m : Nat) : Prop := ∃ (p : Addr) (ns : List Int), x = .ref p ∧ p ≠ tw ∧ H p = some (.lst (ns.map V.int)) ∧ (∀ k ∈ ns, 0 ≤ k ∧ k < n) ∧ ns.length ≤ m
theorem IL.t {n : Nat} {H H' : Hp} {tw : Addr} {x : V} {m : Nat} (h : IL n H tw x m) (s : SameT tw H H') : IL n H' tw x m := by
  obtain ⟨p, ns, e, ne, ep, hin, l⟩ := h
  exact ⟨p, ns, e, ne, s _ _ ep ne, hin, l⟩
theorem IL.same {n : Nat} {H H' : Hp} {tw : Addr} {x : V} {m : Nat} (h : IL n H tw x m) (s : Same H H') : IL n H' tw x m := h.t s.t
theorem thing_ints {H : Hp} {p : Addr} {ns : List Int} (e : H p = some (.lst (ns.map V.int))) (l : ns.length ≤ 40) : Thing H (.ref p) (some (ns.map .int)) := ⟨⟨by rw [List.length_map]; exact l, okDs_ints ns⟩, p, _, rfl, e, IsAll.ints _⟩
theorem cut_ints (ns : List Int) (lo hi : Option Int) : ∃ ms : List Int, cutV (ns.map V.int) lo hi = ms.map V.int ∧ (∀ k ∈ ms, k ∈ ns) ∧ ms.length ≤ ns.length := by
  unfold cutV
  refine ⟨(ns.drop (HT.sIx (ns.map V.int).length 0 lo)).take (HT.sIx (ns.map V.int).length (ns.map V.int).length hi - HT.sIx (ns.map V.int).length 0 lo), ?_, fun k hk => List.mem_of_mem_drop (List.mem_of_mem_take hk), ?_⟩
  · rw [List.map_take, List.map_drop]
  · rw [List.length_take, List.length_drop]
    omega
structure Eo (K : PySem.W.Frag) (H : Hp) (a : Addr) (ns : List Int) (tw : Addr) (x : V) (n : Nat) (ps : List (Int × Int)) (L : Nat) : Prop where
  scr : Scr K H a ns
  twn : ∃ ts, H tw = some (.lst ts) ∧ ts.length ≤ L
  ix : Is H x (ordD n ps)
section
variable {K : PySem.W.Frag} {H H' : Hp} {a : Addr} {ns : List Int} {tw : Addr} {x : V} {ts : List V} {n : Nat} {ps : List (Int × Int)} {L L' : Nat}
theorem Eo.same (h : Eo K H a ns tw x n ps L) (s : Same H H') : Eo K H' a ns tw x n ps L := ⟨h.scr.same s, let ⟨ts, e, g⟩ := h.twn; ⟨ts, s _ _ e, g⟩, h.ix.same s⟩
theorem Eo.draw (h : Eo K H a ns tw x n ps L) (s : SameT tw H H') (e : H' tw = some (.lst ts)) (g : ts.length ≤ L') : Eo K H' a ns tw x n ps L' := by
  obtain ⟨ts0, e0, _⟩ := h.twn
  exact ⟨h.scr.t e0 s, ⟨ts, e, g⟩, ord_tt e0 s h.ix⟩
theorem Eo.fr {q : Addr} (h : Eo K H a ns tw x n ps L) (e : H q = none) : q ≠ tw := fun z => by
  obtain ⟨ts, e2, _⟩ := h.twn
  rw [z, e2] at e
  cases e
end
noncomputable def HU (n : Nat) (ps : List (Int × Int)) (st : Int) (tw : Addr) (u : V) (H : Hp) : Prop := (nums n ps st ≠ none ∧ u = .non) ∨ (nums n ps st = none ∧ ∃ p th, u = .ref p ∧ p ≠ tw ∧ H p = some (.lst ((zI th).map V.int)) ∧ IsRnd n (dmAll n ps st n) th)
theorem HU.same {n : Nat} {ps : List (Int × Int)} {st : Int} {tw : Addr} {u : V} {H H' : Hp} (h : HU n ps st tw u H) (s : Same H H') : HU n ps st tw u H' := h.imp id fun ⟨h, p, th, h1, h2, h3, h4⟩ => ⟨h, p, th, h1, h2, s _ _ h3, h4⟩
theorem one_slice (ns : List Int) {k : Int} (h : 0 ≤ k) : ∃ ms : List Int, cutV (ns.map V.int) (some k) (some (k + 1)) = ms.map V.int ∧ (∀ j ∈ ms, j ∈ ns) ∧ ms.length ≤ 1 := by
  obtain ⟨m, hm⟩ : ∃ m : Nat, k = (m : Int) := ⟨k.toNat, by omega⟩
  subst hm
  have e1 := HT.sIx_nat (ns.map V.int).length 0 m
  have e2 : HT.sIx (ns.map V.int).length (ns.map V.int).length (some ((m : Int) + 1)) = min (m + 1) (ns.map V.int).length := by
    have := HT.sIx_nat (ns.map V.int).length (ns.map V.int).length (m + 1)
    rw [show (((m + 1 : Nat)) : Int) = (m : Int) + 1 by omega] at this
    exact this
  unfold cutV
  rw [e1, e2]
  refine ⟨(ns.drop (min m (ns.map V.int).length)).take (min (m + 1) (ns.map V.int).length - min m (ns.map V.int).length), ?_, fun k hk => List.mem_of_mem_drop (List.mem_of_mem_take hk), ?_⟩
  · rw [List.map_take, List.map_drop]
  · rw [List.length_take, List.length_drop]
    omega
noncomputable def Lb (i : Nat) : Nat := if i = 0 then 8 else if i = 1 then 18 else 38
theorem seq3 {ta tb tc td : TS} {D : Ends} {σ : St} {H : Hp} (h : tSeq (tSeq ta (tSeq tb tc)) td D σ H) : tSeq ta (tSeq tb (tSeq tc td)) D σ H := h
/-! what is no round -/
noncomputable def Tb (n : Nat) (ps : List (Int × Int)) (st : Int) (H : Hp) (tw : Addr) (y : V) : Prop := ∃ o, Thing (cut tw H) y o ∧ rndO n ps st o = false
theorem Tb.t {n : Nat} {ps : List (Int × Int)} {st : Int} {H H' : Hp} {tw : Addr} {y : V} (h : Tb n ps st H tw y) (s : SameT tw H H') : Tb n ps st H' tw y := let ⟨o, h1, h2⟩ := h; ⟨o, h1.same (cut_same s), h2⟩
theorem tb_flat {n : Nat} {ps : List (Int × Int)} {st : Int} {H : Hp} {tw : Addr} {y : V} {d : PyData} (h : Is (cut tw H) y d) (hn : ∀ ds, d ≠ .list ds) : Tb n ps st H tw y := ⟨none, ⟨d, h, hn⟩, rfl⟩
theorem tb_lst {n : Nat} {ps : List (Int × Int)} {st : Int} {H : Hp} {tw p : Addr} {zs : List V} {ds : List PyData} (e : H p = some (.lst zs)) (ne : p ≠ tw) (iz : IsAll (cut tw H) zs ds) (l : ds.length ≤ 40) (ok : okDs ds) (hr : rndL n ps st ds = false) : Tb n ps st H tw (.ref p) := ⟨some ds, ⟨⟨l, ok⟩, p, zs, rfl, cut_at ne e, iz⟩, hr⟩
structure Bk (K : PySem.W.Frag) (H : Hp) (a : Addr) (ns : List Int) (tw : Addr) (x : V) (n : Nat) (ps : List (Int × Int)) (st : Int) (p : Addr) (ms : List Int) (its : List V) : Prop where
  eo : Eo K H a ns tw x n ps 120
  ep : H p = some (.lst (ms.map V.int))
  np : p ≠ tw
  at' : ∀ y ∈ its, Tb n ps st H tw y
section
variable {K : PySem.W.Frag} {H H' : Hp} {a : Addr} {ns : List Int} {tw : Addr} {x : V} {n : Nat} {ps : List (Int × Int)} {st : Int} {p : Addr} {ms : List Int} {its : List V}
theorem Bk.mv (h : Bk K H a ns tw x n ps st p ms its) (s : Same H H') : Bk K H' a ns tw x n ps st p ms its := ⟨h.eo.same s, s _ _ h.ep, h.np, fun y hy => (h.at' y hy).t s.t⟩
theorem Bk.add {y : V} (h : Bk K H a ns tw x n ps st p ms its) (g : Tb n ps st H tw y) : Bk K H a ns tw x n ps st p ms (its ++ [y]) := ⟨h.eo, h.ep, h.np, fun z hz => by
  rcases List.mem_append.mp hz with hz | hz
  · exact h.at' z hz
  · rcases List.mem_singleton.mp hz with rfl
    exact g⟩
theorem Bk.tup {q : Addr} {us : List V} (h : Bk K H a ns tw x n ps st p ms its) (e : H q = some (.tup us)) : cut tw H q = some (.tup us) := by
  obtain ⟨ts, e2, _⟩ := h.eo.twn
  exact cut_at (ne_of e e2 (by intro z; cases z)) e
end
theorem rnd_pick {vs : List V} {H : Hp} {QQ : VK} {E : XK} (h : ∃ x n ps st, vs = [x, .int st] ∧ Is H x (ordD n ps) ∧ Ord n ps ∧ 1 ≤ st ∧ st ≤ 999 ∧
    ∀ H', Same H H' → ∀ u, ((nums n ps st ≠ none ∧ u = .non) ∨ (nums n ps st = none ∧ ∃ p th, u = .ref p ∧ H p = none ∧ H' p = some (.lst (nI th)) ∧ IsRnd n (dmAll n ps st n) th)) → QQ u H') : sp_round_of vs H QQ E := by
  obtain ⟨x, n, ps, st, h1, h2, h3, h4, h5, k⟩ := h
  exact ⟨x, n, ps, st, h1, h2, h3, h4, h5, fun H' s => ⟨fun hn => k H' s _ (.inl ⟨hn, rfl⟩), fun p th hn hR hp e => k H' s _ (.inr ⟨hn, p, th, rfl, hp, e, hR⟩)⟩⟩
section
variable {P : Program} {w : World} {K : PySem.W.Frag} {mg : Str → Option Value} {base : Heap} {t : Ad}
noncomputable def spLaw (K : PySem.W.Frag) : Sp := fun vs H Q _ => ∃ a ns, vs = [.ref a] ∧ Scr K H a ns ∧ ∀ H', Q (.bl true) H'
theorem ok_law (T : Txt K mg t) : FnOk P w K mg base CX0 9 t.a_law t.d_law ["_law_script"] (spLaw K) := by
  refine T.F_law.ok sc_law (fun vs H Q E h => ?_) (fun cdv A outer s H vs Q E hr h => ?_)
  · obtain ⟨a, ns, rfl, _⟩ := h
    rfl
  · obtain ⟨a, ns, rfl, hs, q⟩ := h
    refine ⟨_, (pss_cons (ps_set (i := 1) sc_law.nd rfl (Or.inr rfl) (pe_lst pa_nil))
      (pss_cons (ps_set (i := 2) sc_law.nd rfl (Or.inr rfl) (pe_call (ok__law_order T) (hr.mono (by decide)) rfl T.m__law_order T.F__law_order.kp T.b__law_order .nil pass0 (pa_cons (pv 0) (pa_cons (pv 1) (pa_cons pe_int pa_nil)))))
      (pss_cons (ps_set (i := 3) sc_law.nd rfl (Or.inl rfl) (pe_op op_add pe_int (pe_call (ok__law_draw T) (hr.mono (by decide)) rfl T.m__law_draw T.F__law_draw.kp T.b__law_draw .nil pass0 (pa_cons (pv 0) (pa_cons (pv 1) (pa_cons (pe_call (ok__law_pick T) (hr.mono (by decide)) rfl T.m__law_pick T.F__law_pick.kp T.b__law_pick .nil pass0 (pa_cons (pv 0) (pa_cons (pv 1) (pa_cons (pe_lst (pa_cons pe_int (pa_cons pe_int (pa_cons pe_int pa_nil)))) pa_nil)))) pa_nil))))))
      (pss_cons (ps_set (i := 4) sc_law.nd rfl (Or.inl rfl) (pe_call (ok_round_of T) (hr.mono (by decide)) rfl T.m_round_of T.F_round_of.kp T.b_round_of .nil pass0 (pa_cons (pv 2) (pa_cons (pv 3) pa_nil))))
      (pss_cons (ps_set (i := 5) sc_law.nd rfl (Or.inl rfl) (pe_cmpR o_isN (pe_call (ok__law_least T) (hr.mono (by decide)) rfl T.m__law_least T.F__law_least.kp T.b__law_least .nil pass0 (pa_cons (pv 2) (pa_cons (pv 3) pa_nil))) pe_non (nomark _)))
      (pss_cons (ps_if (pt_cmpR (op_neD hr.units) (pe_cmpR o_notN (pv 4) pe_non (nomark _)) (pv 5) (nomark _)) (pss_one (ps_ret pe_bl)) pss_nil)
      (pss_cons (ps_if (PW.pt (pw_and (pt_val (pv 5)) (pw_and1 (pt_not (pt_val (pe_call (ok__law_due T) (hr.mono (by decide)) rfl T.m__law_due T.F__law_due.kp T.b__law_due .nil pass0 (pa_cons (pv 2) (pa_cons (pv 3) (pa_cons (pv 4) pa_nil))))))))) (pss_one (ps_ret pe_bl)) pss_nil)
      (pss_cons (ps_if (PW.pt (pw_and (pt_val (pv 5)) (pw_and1 (pt_cmpR (op_neD hr.units) (pe_call (ok_is_round T) (hr.mono (by decide)) rfl T.m_is_round T.F_is_round.kp T.b_is_round .nil pass0 (pa_cons (pv 2) (pa_cons (pv 3) (pa_cons (pv 4) pa_nil)))) pe_bl (nomark _))))) (pss_one (ps_ret pe_bl)) pss_nil)
      (pss_cons (ps_if (PW.pt (pw_or (pt_cmpR o_isN (pv 4) pe_non (nomark _)) (pw_or1 (pt_cmpR (op_eqD hr.units) (pe_call (ok__law_draw T) (hr.mono (by decide)) rfl T.m__law_draw T.F__law_draw.kp T.b__law_draw .nil pass0 (pa_cons (pv 0) (pa_cons (pv 1) (pa_cons pe_int pa_nil)))) pe_int (nomark _))))) (pss_one (ps_set_lc (i := 4) sc_law.nd rfl rfl rfl rfl ⟨True.intro, True.intro, True.intro, (.inl rfl), (.inl rfl), (.inl rfl), True.intro⟩ (M := ["_law_k", "_law_order_here", "_law_script", "_law_town"]) (.own (.free 2 rfl rfl (.free 0 rfl rfl (.free 1 rfl rfl .nil)))) (gk_name rfl) rfl (by decide +kernel) (pi_range1 rfl T.n_range (pa_cons (pe_op op_add pe_int (pe_call (ok__law_draw T) (hr.mono (by decide)) rfl T.m__law_draw T.F__law_draw.kp T.b__law_draw .nil pass0 (pa_cons (pv 0) (pa_cons (pv 1) (pa_cons pe_int pa_nil))))) pa_nil)) (fun C fp s1 H1 => ⟨pg_name (i := 0) (show (["_law_k", "_law_order_here", "_law_script", "_law_town"] : List Str).Nodup by decide +kernel) rfl (Or.inl rfl), pif_nil, (pe_call (ok__law_draw T) (hr.mono (by decide)) rfl T.m__law_draw T.F__law_draw.kp T.b__law_draw .nil pass0 (pa_cons (pv 2) (pa_cons (pv 3) (pa_cons (pe_ix (k_ix K) (pv 1) pe_int (fun _ _ => rfl)) pa_nil))))⟩))) pss_nil)
      (pss_cons (ps_for PassesOwn.never rfl (pi_range1 rfl T.n_range (pa_cons (pe_call (ok__law_draw T) (hr.mono (by decide)) rfl T.m__law_draw T.F__law_draw.kp T.b__law_draw .nil pass0 (pa_cons (pv 0) (pa_cons (pv 1) (pa_cons pe_int pa_nil)))) pa_nil)) (pg_name (i := 6) sc_law.nd rfl (Or.inl rfl)) (pss_cons (ps_set (i := 7) sc_law.nd rfl (Or.inl rfl) (pe_call (ok__law_draw T) (hr.mono (by decide)) rfl T.m__law_draw T.F__law_draw.kp T.b__law_draw .nil pass0 (pa_cons (pv 0) (pa_cons (pv 1) (pa_cons (pe_op op_add (pe_callB (k_len K) (by rfl) T.n_len bt_len (pa_cons (pv 4) pa_nil)) pe_int) pa_nil)))))
      (pss_cons (ps_set (i := 8) sc_law.nd rfl (Or.inl rfl) (pe_call (ok__law_draw T) (hr.mono (by decide)) rfl T.m__law_draw T.F__law_draw.kp T.b__law_draw .nil pass0 (pa_cons (pv 0) (pa_cons (pv 1) (pa_cons (pe_ix (k_ix K) (pv 2) pe_int (fun _ _ => rfl)) pa_nil)))))
      (pss_cons (ps_set (i := 9) sc_law.nd rfl (Or.inl rfl) (pe_call (ok__law_pick T) (hr.mono (by decide)) rfl T.m__law_pick T.F__law_pick.kp T.b__law_pick .nil pass0 (pa_cons (pv 0) (pa_cons (pv 1) (pa_cons (pe_lst (pa_cons (pe_lst (pa_cons (pv 8) pa_nil)) (pa_cons (pe_lst pa_nil) (pa_cons (pe_op op_cat (pe_slice (k_slL K) (pv 4) (po_some (pv 7)) (po_some (pe_op op_add (pv 7) pe_int))) (pe_lst (pa_cons (pv 8) pa_nil))) pa_nil)))) pa_nil)))))
      (pss_cons (ps_set (i := 4) sc_law.nd rfl (Or.inl rfl) (pe_op op_cat (pe_op op_cat (pe_slice (k_slL K) (pv 4) po_none (po_some (pv 7))) (pv 9)) (pe_slice (k_slL K) (pv 4) (po_some (pe_op op_add (pv 7) pe_int)) po_none)))
      (pss_one (ps_set (i := 4) sc_law.nd rfl (Or.inl rfl) (pe_call (ok__law_pick T) (hr.mono (by decide)) rfl T.m__law_pick T.F__law_pick.kp T.b__law_pick .nil pass0 (pa_cons (pv 0) (pa_cons (pv 1) (pa_cons (pe_lst (pa_cons (pv 4) (pa_cons (k_revS K (pv 4) (pe_un un_neg pe_int) (fun _ _ _ h => ⟨1, rfl, h⟩)) (pa_cons (pe_op op_cat (pe_slice (k_slL K) (pv 4) (po_some pe_int) po_none) (pe_slice (k_slL K) (pv 4) po_none (po_some pe_int))) pa_nil)))) pa_nil)))))))))))
      (pss_cons (ps_set (i := 10) sc_law.nd rfl (Or.inl rfl) (pe_call (ok_is_round T) (hr.mono (by decide)) rfl T.m_is_round T.F_is_round.kp T.b_is_round .nil pass0 (pa_cons (pv 2) (pa_cons (pv 3) (pa_cons (pv 4) pa_nil)))))
      (pss_cons (ps_if (PW.pt (pw_or (pt_cmpR (op_neD hr.units) (pv 10) (pe_call (ok__law_due T) (hr.mono (by decide)) rfl T.m__law_due T.F__law_due.kp T.b__law_due .nil pass0 (pa_cons (pv 2) (pa_cons (pv 3) (pa_cons (pv 4) pa_nil)))) (nomark _)) (pw_or1 (pt_not (pt_val (pe_callB c_isinst (by rfl) T.n_isinstance bt_isinstance (pa_cons (pv 10) (pa_cons (pe_bltn (v := .ty "bool") rfl T.n_bool bt_bool rfl) pa_nil)))))))) (pss_one (ps_ret pe_bl)) pss_nil)
      (pss_cons (ps_if (PW.pt (pw_and (pt_val (pv 10)) (pw_and1 (PW.pt (pw_or (pt_not (pt_val (pv 5))) (pw_or1 (pt_cmpR o_notN (pe_call (ok_numbers T) (hr.mono (by decide)) rfl T.m_numbers T.F_numbers.kp T.b_numbers .nil pass0 (pa_cons (pv 2) (pa_cons (pv 3) pa_nil))) pe_non (nomark _)))))))) (pss_one (ps_ret pe_bl)) pss_nil)
      (pss_cons (ps_set (i := 8) sc_law.nd rfl (Or.inl rfl) (pe_call (ok_round_of T) (hr.mono (by decide)) rfl T.m_round_of T.F_round_of.kp T.b_round_of .nil pass0 (pa_cons (pv 2) (pa_cons pe_int pa_nil))))
      (pss_cons (ps_for PassesOwn.never rfl (k_ptup K (pe_tup (pa_cons (pe_ix (k_ix K) (pv 2) pe_int (fun _ _ => rfl)) (pa_cons (pe_op op_add (pe_ix (k_ix K) (pv 2) pe_int (fun _ _ => rfl)) pe_int) (pa_cons (pe_un un_neg pe_int) pa_nil))))) (pg_name (i := 11) sc_law.nd rfl (Or.inl rfl)) (pss_one (ps_if (PW.pt (pw_and (pt_cmpR o_notN (pv 8) pe_non (nomark _)) (pw_and1 (pt_cmpR (op_neD hr.units) (pe_call (ok_is_round T) (hr.mono (by decide)) rfl T.m_is_round T.F_is_round.kp T.b_is_round .nil pass0 (pa_cons (pv 2) (pa_cons pe_int (pa_cons (pe_op op_cat (pv 8) (pe_lst (pa_cons (pv 11) pa_nil))) pa_nil)))) pe_bl (nomark _))))) (pss_one (ps_ret pe_bl)) pss_nil)))
      (pss_cons (ps_set (i := 12) sc_law.nd rfl (Or.inl rfl) (pe_lst (pa_cons pe_non (pa_cons (pe_tup pa_nil) (pa_cons (pe_lst pa_nil) (pa_cons (pe_lst (pa_cons pe_int pa_nil)) (pa_cons (pe_callTy (k_tuple K) (by rfl) T.n_tuple bt_tuple (pa_cons (pv 4) pa_nil)) (pa_cons (pe_op op_cat (pv 4) (pe_lst (pa_cons pe_non pa_nil))) (pa_cons (pe_op op_cat (pv 4) (pe_lst (pa_cons (pe_ix (k_ix K) (pv 2) pe_int (fun _ _ => rfl)) pa_nil))) (pa_cons (pe_op op_cat (pe_lst (pa_cons (pe_un un_neg pe_int) pa_nil)) (pv 4)) (pa_cons (pe_op op_cat (pe_lst (pa_cons pe_bl pa_nil)) (pv 4)) pa_nil)))))))))))
      (pss_one (ps_ret (pe_cmpR (op_eqD hr.units) (pe_call (ok_is_round T) (hr.mono (by decide)) rfl T.m_is_round T.F_is_round.kp T.b_is_round .nil pass0 (pa_cons (pv 2) (pa_cons (pv 3) (pa_cons (pe_call (ok__law_pick T) (hr.mono (by decide)) rfl T.m__law_pick T.F__law_pick.kp T.b__law_pick .nil pass0 (pa_cons (pv 0) (pa_cons (pv 1) (pa_cons (pv 12) pa_nil)))) pa_nil)))) pe_bl (nomark _)))))))))))))))))))), ?_⟩
    walk_at "rd"
    refine ⟨Nat.zero_le _, fun tw htw => ?_⟩
    have s0 := Same.upd (o := .lst []) htw
    have hs0 := hs.same s0
    have et0 : upd H tw (.lst []) tw = some (.lst []) := upd_same
    generalize upd H tw (.lst []) = H0 at s0 hs0 et0
    walk_at "rd"
    refine ⟨a, ns, tw, [], rfl, hs0, et0, by decide, fun x H1 n ps ts1 s1 ht1 hl1 ho hx => ?_⟩
    have n1 := ho.lo
    have n8 := ho.hi
    have E1 : Eo K H1 a ns tw x n ps 60 := ⟨hs0.t et0 s1, ⟨ts1, ht1, by simpa using hl1⟩, hx⟩
    clear hs0 et0 s1 hx s0 hs
    walk_at "rd"
    refine ⟨by show 3 ≤ sizeLine; decide, fun q1 hq1 => ?_⟩
    have f1 := Same.upd (o := .lst [V.int 2, V.int 5, V.int 999]) hq1
    have E2 := E1.same f1
    walk_at "rd"
    refine ⟨a, ns, tw, ts1, q1, _, rfl, E2.scr, f1 _ _ ht1, by simp at hl1; omega, upd_same, E1.fr hq1, by show 0 < 3; decide, fun v H3 ts3 s3 ht3 hl3 hv => ?_⟩
    obtain ⟨m, rfl, m0, m9⟩ : ∃ m : Int, v = .int m ∧ 0 < m ∧ m ≤ 999 := by
      simp only [List.mem_cons, List.not_mem_nil, or_false] at hv
      rcases hv with rfl | rfl | rfl
      · exact ⟨_, rfl, by decide, by decide⟩
      · exact ⟨_, rfl, by decide, by decide⟩
      · exact ⟨_, rfl, by decide, by decide⟩
    have E3 : Eo K H3 a ns tw x n ps 70 := E2.draw s3 ht3 (by simp at hl1; omega)
    walk_at "rd"
    refine ⟨a, ns, tw, ts3, m, rfl, E3.scr, ht3, by simp at hl1; omega, m0, fun r4 H4 ts4 s4 ht4 hl4 r40 r41 => ?_⟩
    have E4 : Eo K H4 a ns tw x n ps 70 := E3.draw s4 ht4 (by simp at hl1; omega)
    obtain ⟨st, hst⟩ : ∃ st, 1 + r4 = st := ⟨_, rfl⟩
    have st1 : 1 ≤ st := by omega
    have st9 : st ≤ 999 := by omega
    clear E1 E2 E3 s3 s4 ht3 ht4 f1 hq1 ht1 hl1 hl3 hl4 hv
    walk_at "rd"
    rw [hst]
    refine rnd_pick ⟨x, n, ps, st, rfl, E4.ix, ho, st1, st9, fun H5 s5 u hu => ?_⟩
    have E5 := E4.same s5
    have hnu : nums n ps st = lv n (dmAll n ps st n) := rfl
    have hU5 : (nums n ps st ≠ none ∧ u = .non) ∨ (nums n ps st = none ∧ ∃ p th, u = .ref p ∧ p ≠ tw ∧ H5 p = some (.lst ((zI th).map V.int)) ∧ IsRnd n (dmAll n ps st n) th) := by
      rcases hu with h | ⟨h, p, th, h1, h2, h3, h4⟩
      · exact .inl h
      · exact .inr ⟨h, p, th, h1, E4.fr h2, by rw [← nI_z]; exact h3, h4⟩
    clear hu s5 E4
    walk_at "rd"
    refine ⟨x, n, ps, st, rfl, E5.ix, n8, st1, st9, fun H6 s6 => ?_⟩
    rw [lv_grownG n1 (dmAll_ok n ps st) (ls_ok n ps st) sol_ls]
    refine ans_of fun z hz => ?_
    have E6 := E5.same s6
    have hU6 : (nums n ps st ≠ none ∧ u = .non) ∨ (nums n ps st = none ∧ ∃ p th, u = .ref p ∧ p ≠ tw ∧ H6 p = some (.lst ((zI th).map V.int)) ∧ IsRnd n (dmAll n ps st n) th) := hU5.imp id fun ⟨h, p, th, h1, h2, h3, h4⟩ => ⟨h, p, th, h1, h2, s6 _ _ h3, h4⟩
    have ez : decide (z = .non) = decide (lv n (dmAll n ps st n) = none) := by
      cases e : lv n (dmAll n ps st n) with
      | none => rw [e] at hz; cases hz; rfl
      | some v => rw [e] at hz; obtain ⟨p, rfl, _⟩ := hz; rfl
    clear hU5 E5 s6 hz
    walk_at "rd"
    rw [ez]
    have eu : (!decide (u = .non)) = decide (lv n (dmAll n ps st n) = none) := by
      rcases hU6 with ⟨h, rfl⟩ | ⟨h, p, th, rfl, _⟩
      · rw [hnu] at h
        rw [decide_eq_false h]
        rfl
      · rw [hnu] at h
        rw [decide_eq_true h]
        rfl
    rw [eu]
    refine ifF (by simp) ?_
    have HU6 : HU n ps st tw u H6 := hU6
    clear hU6 eu ez hst
    refine rd_next ?_
    dsimp only
    refine seq_rest (fun σ' H' => (∃ v6 v7 v8 v9 v10 v11 v12, σ' = [some (.ref a), some (.ref tw), some x, some (.int st), some (u), some (.bl (decide (lv n (dmAll n ps st n) = none))), v6, v7, v8, v9, v10, v11, v12]) ∧ Eo K H' a ns tw x n ps 70 ∧ HU n ps st tw u H') ?_ (fun D' hrt rest => ?_)
    rotate_left
    · rcases id HU6 with ⟨h, rfl⟩ | ⟨h, p, th, rfl, np, ep, hR⟩
      · rw [hnu] at h
        have e0 : decide (lv n (dmAll n ps st n) = none) = false := decide_eq_false h
        rw [e0] at rest ⊢
        walk_at "rd"
        exact rest _ _ ⟨⟨_, _, _, _, _, _, _, rfl⟩, E6, HU6⟩
      · rw [hnu] at h
        have e0 : decide (lv n (dmAll n ps st n) = none) = true := decide_eq_true h
        rw [e0] at rest ⊢
        have l8 := (isRnd_len hR).2
        walk_at "rd"
        refine ⟨x, p, n, ps, st, zI th, rfl, E6.ix, ep, by rw [zI_len]; omega, fun H7 s7 => ?_⟩
        rw [due_rnd hR]
        walk_at "rd"
        exact rest _ _ ⟨⟨_, _, _, _, _, _, _, rfl⟩, E6.same s7, HU6.same s7⟩
    rintro σ' H7 ⟨⟨v6, v7, v8, v9, v10, v11, v12, rfl⟩, E7, HU7⟩
    clear E6 HU6
    refine seq_rest (fun σ' H' => (∃ v6 v7 v8 v9 v10 v11 v12, σ' = [some (.ref a), some (.ref tw), some x, some (.int st), some (u), some (.bl (decide (lv n (dmAll n ps st n) = none))), v6, v7, v8, v9, v10, v11, v12]) ∧ Eo K H' a ns tw x n ps 70 ∧ HU n ps st tw u H') ?_ (fun D' hrt rest => ?_)
    rotate_left
    · rcases id HU7 with ⟨h, rfl⟩ | ⟨h, p, th, rfl, np, ep, hR⟩
      · rw [hnu] at h
        have e0 : decide (lv n (dmAll n ps st n) = none) = false := decide_eq_false h
        rw [e0] at rest ⊢
        walk_at "rd"
        exact rest _ _ ⟨⟨_, _, _, _, _, _, _, rfl⟩, E7, HU7⟩
      · rw [hnu] at h
        have e0 : decide (lv n (dmAll n ps st n) = none) = true := decide_eq_true h
        rw [e0] at rest ⊢
        have l8 := (isRnd_len hR).2
        walk_at "rd"
        refine ⟨x, _, n, ps, st, _, rfl, E7.ix, ho, st1, st9, thing_ints ep (by rw [zI_len]; omega), fun H8 s8 => ?_⟩
        rw [show rndO n ps st (some ((zI th).map .int)) = true from (rnd_due (zI_in (dmAll_ok n ps st) hR)).trans (due_rnd hR)]
        walk_at "rd"
        refine ifF (by decide) ?_
        exact rest _ _ ⟨⟨_, _, _, _, _, _, _, rfl⟩, E7.same s8, HU7.same s8⟩
    rintro σ' H8 ⟨⟨v6, v7, v8, v9, v10, v11, v12, rfl⟩, E8, HU8⟩
    clear E7 HU7
    refine seq_rest (fun σ' H' => ∃ u', (∃ v6 v7 v8 v9 v10 v11 v12, σ' = [some (.ref a), some (.ref tw), some x, some (.int st), some (u'), some (.bl (decide (lv n (dmAll n ps st n) = none))), v6, v7, v8, v9, v10, v11, v12]) ∧ Eo K H' a ns tw x n ps 85 ∧ IL n H' tw u' 8) ?_ (fun D' hrt rest => ?_)
    rotate_left
    · have body : ∀ H9, Eo K H9 a ns tw x n ps 71 → True := fun _ _ => True.intro
      rcases id HU8 with ⟨h, rfl⟩ | ⟨h, p, th, rfl, np, ep, hR⟩
      · have E9 : Eo K H8 a ns tw x n ps 71 := let ⟨ts, e, g⟩ := E8.twn; E8.draw (SameT.refl _ _) e (by omega)
        generalize H8 = H9 at E9
        walk_at "rd"
        obtain ⟨ts9, ht9, hl9⟩ := E9.twn
        refine ⟨a, ns, tw, ts9, 6, rfl, E9.scr, ht9, by omega, by decide, fun r10 H10 ts10 s10 ht10 hl10 r100 r101 => ?_⟩
        have E10 : Eo K H10 a ns tw x n ps 72 := E9.draw s10 ht10 (by omega)
        obtain ⟨oa, ob, xs, ex, ea, eb, hxs⟩ := is_ord E10.ix
        walk_at "rd"
        refine ⟨_, rfl, by omega, by omega, ?_⟩
        refine lp_range (small_ln (by omega)) (fun i ys H' => Eo K H' a ns tw x n ps (72 + i) ∧ SameT tw H10 H' ∧ ∃ ms : List Int, ys = ms.map V.int ∧ ms.length = i ∧ ∀ k ∈ ms, 0 ≤ k ∧ k < n) ⟨E10, SameT.refl _ _, [], rfl, rfl, fun k hk => nomatch hk⟩ (by
          rintro i ys H' ⟨_, _, ms, rfl, h, _⟩
          rw [List.length_map]
          omega) ?_ ?_
        · rintro i ys H11 hi ⟨E11, s11, ms, rfl, lm, hin⟩
          obtain ⟨ts11, ht11, hl11⟩ := E11.twn
          have ea11 := s11 _ _ ea (ne_of ea ht10 (by intro z; cases z))
          subst ex
          walk_at "rd"
          refine ⟨a, ns, tw, ts11, n, rfl, E11.scr, ht11, by omega, by omega, fun r12 H12 ts12 s12 ht12 hl12 r120 r121 => ?_⟩
          refine ⟨E11.draw s12 ht12 (by omega), s11.trans s12, ms ++ [r12], by rw [List.map_append]; rfl, by rw [List.length_append, lm]; rfl, fun k hk => ?_⟩
          rcases List.mem_append.mp hk with h | h
          · exact hin k h
          · rcases List.mem_singleton.mp h with rfl
            exact ⟨r120, r121⟩
        · rintro ys H11 ⟨E11, s11, ms, rfl, lm, hin⟩ p12 hp12
          have f := Same.upd (o := .lst (ms.map V.int)) hp12
          obtain ⟨ts11, ht11, hl11⟩ := E11.twn
          refine rd_gname ?_
          exact rest _ _ ⟨_, ⟨_, _, _, _, _, _, _, rfl⟩, (E11.draw (SameT.refl _ _) ht11 (by omega)).same f, p12, ms, rfl, E11.fr hp12, upd_same, hin, by omega⟩
      · obtain ⟨ts8, ht8, hl8⟩ := E8.twn
        have l8 := (isRnd_len hR).2
        walk_at "rd"
        refine ⟨a, ns, tw, ts8, 3, rfl, E8.scr, ht8, by omega, by decide, fun r9 H9 ts9 s9 ht9 hl9 _ _ => ?_⟩
        have E9 : Eo K H9 a ns tw x n ps 71 := E8.draw s9 ht9 (by omega)
        have ep9 := s9 _ _ ep np
        walk_at "rd"
        refine ifB (fun g => ?_) (fun g => ?_)
        · walk_at "rd"
          obtain ⟨ts9, ht9, hl9⟩ := E9.twn
          refine ⟨a, ns, tw, ts9, 6, rfl, E9.scr, ht9, by omega, by decide, fun r10 H10 ts10 s10 ht10 hl10 r100 r101 => ?_⟩
          have E10 : Eo K H10 a ns tw x n ps 72 := E9.draw s10 ht10 (by omega)
          obtain ⟨oa, ob, xs, ex, ea, eb, hxs⟩ := is_ord E10.ix
          walk_at "rd"
          refine ⟨_, rfl, by omega, by omega, ?_⟩
          refine lp_range (small_ln (by omega)) (fun i ys H' => Eo K H' a ns tw x n ps (72 + i) ∧ SameT tw H10 H' ∧ ∃ ms : List Int, ys = ms.map V.int ∧ ms.length = i ∧ ∀ k ∈ ms, 0 ≤ k ∧ k < n) ⟨E10, SameT.refl _ _, [], rfl, rfl, fun k hk => nomatch hk⟩ (by
            rintro i ys H' ⟨_, _, ms, rfl, h, _⟩
            rw [List.length_map]
            omega) ?_ ?_
          · rintro i ys H11 hi ⟨E11, s11, ms, rfl, lm, hin⟩
            obtain ⟨ts11, ht11, hl11⟩ := E11.twn
            have ea11 := s11 _ _ ea (ne_of ea ht10 (by intro z; cases z))
            subst ex
            walk_at "rd"
            refine ⟨a, ns, tw, ts11, n, rfl, E11.scr, ht11, by omega, by omega, fun r12 H12 ts12 s12 ht12 hl12 r120 r121 => ?_⟩
            refine ⟨E11.draw s12 ht12 (by omega), s11.trans s12, ms ++ [r12], by rw [List.map_append]; rfl, by rw [List.length_append, lm]; rfl, fun k hk => ?_⟩
            rcases List.mem_append.mp hk with h | h
            · exact hin k h
            · rcases List.mem_singleton.mp h with rfl
              exact ⟨r120, r121⟩
          · rintro ys H11 ⟨E11, s11, ms, rfl, lm, hin⟩ p12 hp12
            have f := Same.upd (o := .lst (ms.map V.int)) hp12
            obtain ⟨ts11, ht11, hl11⟩ := E11.twn
            refine rd_gname ?_
            exact rest _ _ ⟨_, ⟨_, _, _, _, _, _, _, rfl⟩, (E11.draw (SameT.refl _ _) ht11 (by omega)).same f, p12, ms, rfl, E11.fr hp12, upd_same, hin, by omega⟩
        · obtain ⟨ts9', e9, g9⟩ := E9.twn
          exact rest _ _ ⟨_, ⟨_, _, _, _, _, _, _, rfl⟩, E9.draw (SameT.refl _ _) e9 (by omega), p, zI th, rfl, np, ep9, zI_in (dmAll_ok n ps st) hR, by rw [zI_len]; omega⟩
    rintro σ' H9 ⟨u', ⟨v6, v7, v8, v9, v10, v11, v12, rfl⟩, E9, I9⟩
    clear E8 HU8
    obtain ⟨ts9, ht9, hl9⟩ := E9.twn
    walk_at "rd"
    refine ⟨a, ns, tw, ts9, 3, rfl, E9.scr, ht9, by omega, by decide, fun rr G0 tg0 sg0 htg0 hlg0 rr0 rr1 => ?_⟩
    have EG0 : Eo K G0 a ns tw x n ps 90 := E9.draw sg0 htg0 (by omega)
    have IG0 := I9.t sg0
    clear E9 I9 ht9 hl9 sg0 htg0
    walk_at "rd"
    refine ⟨_, rfl, by omega, by omega, ?_⟩
    refine fp_range (fun i σ' H' => ∃ u', (∃ v6 v7 v8 v9 v10 v11 v12, σ' = [some (.ref a), some (.ref tw), some x, some (.int st), some (u'), some (.bl (decide (lv n (dmAll n ps st n) = none))), v6, v7, v8, v9, v10, v11, v12]) ∧ Eo K H' a ns tw x n ps (90 + 4 * i) ∧ IL n H' tw u' (Lb i)) ⟨u', ⟨_, _, _, _, _, _, _, rfl⟩, EG0, IG0⟩ ?_ ?_
    · rintro i σ' G1 hi ⟨u1, ⟨w6, w7, w8, w9, w10, w11, w12, rfl⟩, EG1, p, ms, rfl, np, ep, hin, lm⟩
      have lb : Lb (i + 1) = 2 * Lb i + 2 := by
        have : i = 0 ∨ i = 1 := by omega
        rcases this with rfl | rfl <;> rfl
      have lb38 : Lb (i + 1) ≤ 38 := by unfold Lb; split; omega; split <;> omega
      have lmm : (ms.map V.int).length = ms.length := List.length_map _
      obtain ⟨tg1, htg1, hlg1⟩ := EG1.twn
      walk_at "rd"
      refine ⟨a, ns, tw, tg1, _, rfl, EG1.scr, htg1, by omega, by omega, fun ka G2 tg2 sg2 htg2 hlg2 ka0 ka1 => ?_⟩
      have EG2 : Eo K G2 a ns tw x n ps (90 + 4 * i + 1) := EG1.draw sg2 htg2 (by omega)
      have ep2 := sg2 _ _ ep np
      obtain ⟨oa, ob, xs, ex, ea, eb, hxs⟩ := is_ord EG2.ix
      subst ex
      walk_at "rd"
      refine ⟨a, ns, tw, tg2, n, rfl, EG2.scr, htg2, by omega, by omega, fun ko G3 tg3 sg3 htg3 hlg3 ko0 ko1 => ?_⟩
      have EG3 : Eo K G3 a ns tw (.ref oa) n ps (90 + 4 * i + 2) := EG2.draw sg3 htg3 (by omega)
      have ep3 := sg3 _ _ ep2 np
      clear EG1 EG2 ep ep2 ea eb hxs sg2 sg3 htg1 htg2
      walk_at "rd"
      refine ⟨by show 1 ≤ sizeLine; decide, fun q1 hq1 => ?_⟩
      have f1 := Same.upd (o := .lst [V.int ko]) hq1
      have n1' := EG3.fr hq1
      have E4 := EG3.same f1
      have ep4 := f1 _ _ ep3
      have e1 : upd G3 q1 (.lst [V.int ko]) q1 = some (.lst (([ko] : List Int).map V.int)) := upd_same
      have ht4 := f1 _ _ htg3
      generalize upd G3 q1 (.lst [V.int ko]) = G4 at E4 ep4 e1 ht4
      clear EG3 ep3 f1 hq1 htg3
      walk_at "rd"
      refine ⟨Nat.zero_le _, fun q2 hq2 => ?_⟩
      have f2 := Same.upd (o := .lst []) hq2
      have n2' := E4.fr hq2
      have E5 := E4.same f2
      have ep5 := f2 _ _ ep4
      have e15 := f2 _ _ e1
      have e2 : upd G4 q2 (.lst []) q2 = some (.lst (([] : List Int).map V.int)) := upd_same
      have ht5 := f2 _ _ ht4
      generalize upd G4 q2 (.lst []) = G5 at E5 ep5 e15 e2 ht5
      clear E4 ep4 e1 f2 hq2 ht4
      walk_at "rd"
      refine rd_sl ?_
      walk_at "rd"
      refine rd_part ?_
      walk_at "rd"
      refine ⟨ka, rfl, ?_⟩
      refine rd_part ?_
      walk_at "rd"
      refine ⟨ka + 1, rfl, ?_⟩
      refine rd_slL ep5 fun q3 hq3 => ?_
      obtain ⟨m3, em3, hm3, lm3⟩ := one_slice ms ka0
      rw [em3]
      have f3 := Same.upd (o := .lst (m3.map V.int)) hq3
      have E6 := E5.same f3
      have ep6 := f3 _ _ ep5
      have e16 := f3 _ _ e15
      have e26 := f3 _ _ e2
      have e3 : upd G5 q3 (.lst (m3.map V.int)) q3 = some (.lst (m3.map V.int)) := upd_same
      have ht6 := f3 _ _ ht5
      generalize upd G5 q3 (.lst (m3.map V.int)) = G6 at E6 ep6 e16 e26 e3 ht6
      clear E5 ep5 e15 e2 f3 hq3 ht5
      walk_at "rd"
      refine ⟨by show 1 ≤ sizeLine; decide, fun q4 hq4 => ?_⟩
      have f4 := Same.upd (o := .lst [V.int ko]) hq4
      refine rd_cat (f4 _ _ e3) upd_same (small_ln (by rw [List.length_map]; show m3.length + 1 ≤ 1000; omega)) fun q5 hq5 => ?_
      have f45 := f4.trans (Same.upd (o := .lst (m3.map V.int ++ [V.int ko])) hq5)
      have n5' := (E6.same f4).fr hq5
      have E7 := E6.same f45
      have ep7 := f45 _ _ ep6
      have e17 := f45 _ _ e16
      have e27 := f45 _ _ e26
      have e5 : upd (upd G6 q4 (.lst [V.int ko])) q5 (.lst (m3.map V.int ++ [V.int ko])) q5 = some (.lst ((m3 ++ [ko]).map V.int)) := by rw [upd_same, List.map_append]; rfl
      have ht7 := f45 _ _ ht6
      generalize upd (upd G6 q4 (.lst [V.int ko])) q5 (.lst (m3.map V.int ++ [V.int ko])) = G7 at E7 ep7 e17 e27 e5 ht7
      clear E6 ep6 e16 e26 e3 f4 f45 hq4 hq5 ht6
      walk_at "rd"
      refine ⟨by show 3 ≤ sizeLine; decide, fun q6 hq6 => ?_⟩
      have f6 := Same.upd (o := .lst [V.ref q1, V.ref q2, V.ref q5]) hq6
      have E8' := E7.same f6
      walk_at "rd"
      refine ⟨a, ns, tw, tg3, q6, _, rfl, E8'.scr, f6 _ _ ht7, by omega, upd_same, E7.fr hq6, by show 0 < 3; decide, fun nw G9 tg9 s9 ht9 hl9 hnw => ?_⟩
      have E9 : Eo K G9 a ns tw (.ref oa) n ps (90 + 4 * i + 3) := E8'.draw s9 ht9 (by omega)
      have ep9 := s9 _ _ (f6 _ _ ep7) np
      have IN : IL n G9 tw nw 2 := by
        simp only [List.mem_cons, List.not_mem_nil, or_false] at hnw
        rcases hnw with rfl | rfl | rfl
        · exact ⟨q1, [ko], rfl, n1', s9 _ _ (f6 _ _ e17) n1', fun k hk => by rcases List.mem_singleton.mp hk with rfl; exact ⟨ko0, ko1⟩, by show 1 ≤ 2; decide⟩
        · exact ⟨q2, [], rfl, n2', s9 _ _ (f6 _ _ e27) n2', fun k hk => (nomatch hk), Nat.zero_le _⟩
        · refine ⟨q5, m3 ++ [ko], rfl, n5', s9 _ _ (f6 _ _ e5) n5', fun k hk => ?_, by rw [List.length_append]; show _ + 1 ≤ 2; omega⟩
          rcases List.mem_append.mp hk with h | h
          · exact hin k (hm3 k h)
          · rcases List.mem_singleton.mp h with rfl
            exact ⟨ko0, ko1⟩
      obtain ⟨pn, mn, rfl, npn, epn, hinn, lmn⟩ := IN
      clear E8' E7 ep7 e17 e27 e5 f6 hq6 ht7 s9 hnw
      walk_at "rd"
      refine rd_sl ?_
      walk_at "rd"
      refine rd_noP ?_
      refine rd_part ?_
      walk_at "rd"
      refine ⟨ka, rfl, ?_⟩
      refine rd_slL ep9 fun q7 hq7 => ?_
      obtain ⟨ma, ema, hma, lma⟩ := cut_ints ms none (some ka)
      rw [ema]
      have f7 := Same.upd (o := .lst (ma.map V.int)) hq7
      walk_at "rd"
      refine rd_cat upd_same (f7 _ _ epn) (small_ln (by rw [List.length_map, List.length_map]; omega)) fun q8 hq8 => ?_
      rw [← List.map_append]
      have f8 := f7.trans (Same.upd (o := .lst ((ma ++ mn).map V.int)) hq8)
      have e8 : upd (upd G9 q7 (.lst (ma.map V.int))) q8 (.lst ((ma ++ mn).map V.int)) q8 = some (.lst ((ma ++ mn).map V.int)) := upd_same
      have E10 := E9.same f8
      have ep10 := f8 _ _ ep9
      have ht10 := f8 _ _ ht9
      generalize upd (upd G9 q7 (.lst (ma.map V.int))) q8 (.lst ((ma ++ mn).map V.int)) = G10 at E10 ep10 e8 ht10
      clear E9 ep9 f7 f8 epn ht9
      walk_at "rd"
      refine rd_sl ?_
      walk_at "rd"
      refine rd_part ?_
      walk_at "rd"
      refine ⟨ka + 1, rfl, ?_⟩
      refine rd_noP ?_
      refine rd_slL ep10 fun q9 hq9 => ?_
      obtain ⟨mb, emb, hmb, lmb⟩ := cut_ints ms (some (ka + 1)) none
      rw [emb]
      have f9 := Same.upd (o := .lst (mb.map V.int)) hq9
      refine rd_cat (f9 _ _ e8) upd_same (small_ln (by rw [List.length_map, List.length_map, List.length_append]; omega)) fun q10 hq10 => ?_
      rw [← List.map_append]
      have f10 := f9.trans (Same.upd (o := .lst ((ma ++ mn ++ mb).map V.int)) hq10)
      have nq10 := (E10.same f9).fr hq10
      have E11 := E10.same f10
      have e10 : upd (upd G10 q9 (.lst (mb.map V.int))) q10 (.lst ((ma ++ mn ++ mb).map V.int)) q10 = some (.lst ((ma ++ mn ++ mb).map V.int)) := upd_same
      have ht11 := f10 _ _ ht10
      have hin2 : ∀ k ∈ ma ++ mn ++ mb, 0 ≤ k ∧ k < n := fun k hk => by
        rcases List.mem_append.mp hk with h | h
        · rcases List.mem_append.mp h with h | h
          · exact hin k (hma k h)
          · exact hinn k h
        · exact hin k (hmb k h)
      have lm2 : (ma ++ mn ++ mb).length ≤ Lb (i + 1) := by rw [List.length_append, List.length_append]; omega
      generalize upd (upd G10 q9 (.lst (mb.map V.int))) q10 (.lst ((ma ++ mn ++ mb).map V.int)) = G11 at E11 e10 ht11
      generalize ma ++ mn ++ mb = mc at e10 hin2 lm2
      clear E10 ep10 e8 f9 f10 ht10 hq9 hq10
      have lmc : (mc.map V.int).length = mc.length := List.length_map _
      walk_at "rd"
      refine rd_revS ?_
      walk_at "rd"
      refine ⟨q10, _, rfl, SqL.of e10, fun q11 hq11 => ?_⟩
      rw [← List.map_reverse]
      have f11 := Same.upd (o := .lst (mc.reverse.map V.int)) hq11
      have nq11 := E11.fr hq11
      have E12 := E11.same f11
      have e12 := f11 _ _ e10
      have e11 : upd G11 q11 (.lst (mc.reverse.map V.int)) q11 = some (.lst (mc.reverse.map V.int)) := upd_same
      have ht12 := f11 _ _ ht11
      generalize upd G11 q11 (.lst (mc.reverse.map V.int)) = G12 at E12 e12 e11 ht12
      clear E11 e10 f11 hq11 ht11
      walk_at "rd"
      refine rd_sl ?_
      walk_at "rd"
      refine rd_part ?_
      walk_at "rd"
      refine ⟨1, rfl, ?_⟩
      refine rd_noP ?_
      refine rd_slL e12 fun q12 hq12 => ?_
      rw [cut_tl0]
      have f12 := Same.upd (o := .lst ((mc.map V.int).drop 1)) hq12
      walk_at "rd"
      refine rd_sl ?_
      walk_at "rd"
      refine rd_noP ?_
      refine rd_part ?_
      walk_at "rd"
      refine ⟨1, rfl, ?_⟩
      refine rd_slL (f12 _ _ e12) fun q13 hq13 => ?_
      rw [cut_hd0]
      have f13 := Same.upd (o := .lst ((mc.map V.int).take 1)) hq13
      refine rd_cat (f13 _ _ upd_same) upd_same (small_ln (by rw [List.length_drop, List.length_take]; omega)) fun q14 hq14 => ?_
      rw [← List.map_drop, ← List.map_take, ← List.map_append]
      have f14 := (f12.trans f13).trans (Same.upd (o := .lst ((mc.drop 1 ++ mc.take 1).map V.int)) hq14)
      rw [← List.map_drop, ← List.map_take] at f14
      have nq14 : q14 ≠ tw := fun z => by
        have := f13 _ _ (f12 _ _ ht12)
        rw [z, this] at hq14
        cases hq14
      have E13 := E12.same f14
      have e13 := f14 _ _ e12
      have e11' := f14 _ _ e11
      have e14 : upd (upd (upd G12 q12 (.lst ((mc.drop 1).map V.int))) q13 (.lst ((mc.take 1).map V.int))) q14 (.lst ((mc.drop 1 ++ mc.take 1).map V.int)) q14 = some (.lst ((mc.drop 1 ++ mc.take 1).map V.int)) := upd_same
      have ht13 := f14 _ _ ht12
      generalize upd (upd (upd G12 q12 (.lst ((mc.drop 1).map V.int))) q13 (.lst ((mc.take 1).map V.int))) q14 (.lst ((mc.drop 1 ++ mc.take 1).map V.int)) = G13 at E13 e13 e11' e14 ht13
      clear E12 e12 e11 f12 f13 f14 ht12 hq12 hq13 hq14
      walk_at "rd"
      refine ⟨by show 3 ≤ sizeLine; decide, fun q15 hq15 => ?_⟩
      have f15 := Same.upd (o := .lst [V.ref q10, V.ref q11, V.ref q14]) hq15
      have E14 := E13.same f15
      walk_at "rd"
      refine ⟨a, ns, tw, tg9, q15, _, rfl, E14.scr, f15 _ _ ht13, by omega, upd_same, E13.fr hq15, by show 0 < 3; decide, fun nw G15 tg15 s15 ht15 hl15 hnw => ?_⟩
      have E15 : Eo K G15 a ns tw (.ref oa) n ps (90 + 4 * (i + 1)) := E14.draw s15 ht15 (by omega)
      have IN : IL n G15 tw nw (Lb (i + 1)) := by
        simp only [List.mem_cons, List.not_mem_nil, or_false] at hnw
        rcases hnw with rfl | rfl | rfl
        · exact ⟨q10, mc, rfl, nq10, s15 _ _ (f15 _ _ e13) nq10, hin2, lm2⟩
        · exact ⟨q11, mc.reverse, rfl, nq11, s15 _ _ (f15 _ _ e11') nq11, fun k hk => hin2 k (List.mem_reverse.mp hk), by rw [List.length_reverse]; exact lm2⟩
        · refine ⟨q14, mc.drop 1 ++ mc.take 1, rfl, nq14, s15 _ _ (f15 _ _ e14) nq14, fun k hk => ?_, by rw [List.length_append, List.length_drop, List.length_take]; omega⟩
          rcases List.mem_append.mp hk with h | h
          · exact hin2 k (List.mem_of_mem_drop h)
          · exact hin2 k (List.mem_of_mem_take h)
      walk_at "rd"
      exact ⟨nw, ⟨_, _, _, _, _, _, _, rfl⟩, E15, IN⟩
    rintro σ' G1 ⟨u1, ⟨w6, w7, w8, w9, w10, w11, w12, rfl⟩, EG1, p, ms, rfl, np, ep, hin, lm⟩
    have lm38 : ms.length ≤ 38 := by
      refine Nat.le_trans lm ?_
      unfold Lb
      split
      · omega
      · split <;> omega
    clear EG0 IG0 lm
    obtain ⟨tg1, htg1, hlg1⟩ := EG1.twn
    have EG : Eo K G1 a ns tw x n ps 110 := EG1.draw (SameT.refl _ _) htg1 (by omega)
    clear EG1 htg1 hlg1
    refine seq3 ?_
    refine seq_rest (fun σ' H' => (∃ v6 v7 v8 v9 v10 v11 v12, σ' = [some (.ref a), some (.ref tw), some x, some (.int st), some (.ref p), some (.bl (decide (lv n (dmAll n ps st n) = none))), v6, v7, v8, v9, v10, v11, v12]) ∧ Eo K H' a ns tw x n ps 110 ∧ H' p = some (.lst (ms.map V.int))) ?_ (fun D' hrt rest => ?_)
    rotate_left
    · walk_at "rd"
      refine ⟨x, _, n, ps, st, _, rfl, EG.ix, ho, st1, st9, thing_ints ep (by omega), fun G2 s2 => ?_⟩
      rw [show rndO n ps st (some (ms.map .int)) = dueB ps st ms from rnd_due hin]
      have E2 := EG.same s2
      have ep2 := s2 _ _ ep
      walk_at "rd"
      refine ⟨x, p, n, ps, st, ms, rfl, E2.ix, ep2, by omega, fun G3 s3 => ?_⟩
      have E3 := E2.same s3
      have ep3 := s3 _ _ ep2
      have ib : Is G3 (V.bl (dueB ps st ms)) (.bool (dueB ps st ms)) := .bl _
      walk_at "rd"
      refine ifF (by simp) ?_
      walk_at "rd"
      cases gd : dueB ps st ms with
      | false =>
        walk_at "rd"
        exact rest _ _ ⟨⟨_, _, _, _, _, _, _, rfl⟩, E3, ep3⟩
      | true =>
        have hn0 := due_none n1 hin gd
        rw [decide_eq_true hn0] at rest ⊢
        walk_at "rd"
        refine ⟨x, n, ps, st, rfl, E3.ix, ho, st1, st9, fun G4 s4 => ?_⟩
        rw [hnu, hn0]
        unfold Ans
        walk_at "rd"
        exact rest _ _ ⟨⟨_, _, _, _, _, _, _, rfl⟩, E3.same s4, s4 _ _ ep3⟩
    rintro σ' G2 ⟨⟨z6, z7, z8, z9, z10, z11, z12, rfl⟩, E2, ep2⟩
    clear EG ep
    walk_at "rd"
    refine rnd_pick ⟨x, n, ps, 1, rfl, E2.ix, ho, by decide, by decide, fun G3 s3 u3 hu3 => ?_⟩
    have E3 := E2.same s3
    have ep3 := s3 _ _ ep2
    have hU3 : u3 = .non ∨ ∃ p3 th, u3 = .ref p3 ∧ G3 p3 = some (.lst ((zI th).map V.int)) ∧ IsRnd n (dmAll n ps 1 n) th := by
      rcases hu3 with ⟨_, h⟩ | ⟨_, p3, th, h1, _, h3, h4⟩
      · exact .inl h
      · exact .inr ⟨p3, th, h1, by rw [← nI_z]; exact h3, h4⟩
    obtain ⟨oa, ob, xs, ex, ea, eb, hxs⟩ := is_ord E3.ix
    subst ex
    clear E2 ep2 s3 hu3
    walk_at "rd"
    refine ⟨1, rfl, ?_⟩
    walk_at "rd"
    refine ⟨by show 3 ≤ sizeLine; decide, fun q1 hq1 => ?_⟩
    have f1 := Same.upd (o := .tup [V.int (n : Nat), V.int ((n : Int) + 1), V.int (-1)]) hq1
    have et1 : upd G3 q1 (.tup [V.int (n : Nat), V.int ((n : Int) + 1), V.int (-1)]) q1 = some (.tup [V.int (n : Nat), V.int ((n : Int) + 1), V.int (-1)]) := upd_same
    have E4 := E3.same f1
    have ep4 := f1 _ _ ep3
    have hU4 : u3 = .non ∨ ∃ p3 th, u3 = .ref p3 ∧ upd G3 q1 (.tup [V.int (n : Nat), V.int ((n : Int) + 1), V.int (-1)]) p3 = some (.lst ((zI th).map V.int)) ∧ IsRnd n (dmAll n ps 1 n) th := hU3.imp id fun ⟨p3, th, h1, h3, h4⟩ => ⟨p3, th, h1, f1 _ _ h3, h4⟩
    generalize upd G3 q1 (.tup [V.int (n : Nat), V.int ((n : Int) + 1), V.int (-1)]) = G4 at et1 E4 ep4 hU4
    clear E3 ep3 f1 hU3 ea eb hxs
    walk_at "rd"
    refine ⟨q1, rfl, ⟨_, SqT.of et1⟩, ?_⟩
    refine fp_tup (K := K) (xs := [V.int (n : Nat), V.int ((n : Int) + 1), V.int (-1)]) (fun i σ' H' => (∃ v6 v7 v9 v10 v11 v12, σ' = [some (.ref a), some (.ref tw), some (.ref oa), some (.int st), some (.ref p), some (.bl (decide (lv n (dmAll n ps st n) = none))), v6, v7, some u3, v9, v10, v11, v12]) ∧ Same G4 H') ⟨⟨_, _, _, _, _, _, rfl⟩, Same.refl _⟩ (fun i σ' H' _ h => SqT.of (h.2 _ _ et1)) ?_ ?_
    · rintro i y σ' G5 hy ⟨⟨y6, y7, y9, y10, y11, y12, rfl⟩, s5⟩
      obtain ⟨num, rfl, hnum⟩ : ∃ num : Int, y = .int num ∧ (num < 0 ∨ (n : Int) ≤ num) := by
        match i, hy with
        | 0, hy => cases hy; exact ⟨_, rfl, .inr (by omega)⟩
        | 1, hy => cases hy; exact ⟨_, rfl, .inr (by omega)⟩
        | 2, hy => cases hy; exact ⟨_, rfl, .inl (by omega)⟩
        | i + 3, hy => exact absurd hy (by simp)
      rcases hU4 with rfl | ⟨p3, th, rfl, e3, hR⟩
      · walk_at "rd"
        exact ⟨⟨_, _, _, _, _, _, rfl⟩, s5⟩
      · have l8 := (isRnd_len hR).2
        walk_at "rd"
        refine ⟨by show 1 ≤ sizeLine; decide, fun q5 hq5 => ?_⟩
        have f5 := Same.upd (o := .lst [V.int num]) hq5
        refine rd_cat (f5 _ _ (s5 _ _ e3)) upd_same (small_ln (by rw [List.length_map, zI_len]; show th.length + 1 ≤ 1000; omega)) fun q6 hq6 => ?_
        have f6 := f5.trans (Same.upd (o := .lst ((zI th).map V.int ++ [V.int num])) hq6)
        have e6 : upd (upd G5 q5 (.lst [V.int num])) q6 (.lst ((zI th).map V.int ++ [V.int num])) q6 = some (.lst ((zI th ++ [num]).map V.int)) := by rw [upd_same, List.map_append]; rfl
        have s6 := s5.trans f6
        generalize upd (upd G5 q5 (.lst [V.int num])) q6 (.lst ((zI th).map V.int ++ [V.int num])) = G6 at e6 s6
        walk_at "rd"
        refine ⟨_, _, n, ps, 1, _, rfl, (E4.same s6).ix, ho, by decide, by decide, thing_ints e6 (by rw [List.length_append, zI_len]; show _ + 1 ≤ 40; omega), fun G7 s7 => ?_⟩
        rw [show rndO n ps 1 (some ((zI th ++ [num]).map .int)) = false from rnd_out (d := .int num) (List.mem_map.mpr ⟨num, List.mem_append_right _ List.mem_cons_self, rfl⟩) (whole_no hnum)]
        walk_at "rd"
        refine ifF (by decide) ?_
        walk_at "rd"
        exact ⟨⟨_, _, _, _, _, _, rfl⟩, s6.trans s7⟩
    · rintro σ' G5 ⟨⟨y6, y7, y9, y10, y11, y12, rfl⟩, s5⟩
      have E5 : Eo K G5 a ns tw (.ref oa) n ps 120 := by
        have := E4.same s5
        obtain ⟨tg, e, g⟩ := this.twn
        exact this.draw (SameT.refl _ _) e (by omega)
      have B0 : Bk K G5 a ns tw (.ref oa) n ps st p ms [V.non] := (⟨E5, s5 _ _ ep4, np, fun y hy => nomatch hy⟩ : Bk K G5 a ns tw (.ref oa) n ps st p ms []).add (tb_flat .non fun ds z => by cases z)
      clear E4 ep4 hU4 et1 s5 E5
      have okn : okD (PyData.none) := ⟨rfl, Nat.zero_le _⟩
      walk_at "rd"
      refine ⟨Nat.zero_le _, fun b1 hb1 => ?_⟩
      have B1' := B0.mv (Same.upd (o := .tup []) hb1)
      have B1 := B1'.add (y := .ref b1) (tb_flat (d := .tuple []) (.tup (B1'.tup upd_same) .nil) fun ds z => by cases z)
      generalize upd G5 b1 (.tup []) = G6 at B1
      clear B0 B1'
      walk_at "rd"
      refine ⟨Nat.zero_le _, fun b2 hb2 => ?_⟩
      have B2 := (B1.mv (Same.upd (o := .lst []) hb2)).add (y := .ref b2) (tb_lst upd_same (B1.eo.fr hb2) .nil (by decide) okDs_nil (rnd_few (by decide)))
      generalize upd G6 b2 (.lst []) = G7 at B2
      clear B1
      walk_at "rd"
      refine ⟨by show 1 ≤ sizeLine; decide, fun b3 hb3 => ?_⟩
      have B3 := (B2.mv (Same.upd (o := .lst [V.int 0]) hb3)).add (y := .ref b3) (tb_lst (ds := [.int 0]) upd_same (B2.eo.fr hb3) (.cons (.int 0) .nil) (by decide) (okDs_one ⟨rfl, Nat.zero_le _⟩ okDs_nil) (rnd_few (by decide)))
      generalize upd G7 b3 (.lst [V.int 0]) = G8 at B3
      clear B2
      have e8 := B3.ep
      walk_at "rd"
      intro b4 hb4
      have B4' := B3.mv (Same.upd (o := .tup (ms.map V.int)) hb4)
      have B4 := B4'.add (y := .ref b4) (tb_flat (d := .tuple (ms.map .int)) (.tup (B4'.tup upd_same) (IsAll.ints _)) fun ds z => by cases z)
      generalize upd G8 b4 (.tup (ms.map V.int)) = G9 at B4
      clear B3 B4' e8
      walk_at "rd"
      refine ⟨by show 1 ≤ sizeLine; decide, fun b5 hb5 => ?_⟩
      have f5 := Same.upd (o := .lst [V.non]) hb5
      have B5 := B4.mv f5
      have g5 : upd G9 b5 (.lst [V.non]) b5 = some (.lst [V.non]) := upd_same
      generalize upd G9 b5 (.lst [V.non]) = G10 at B5 g5
      refine rd_cat B5.ep g5 (small_ln (by rw [List.length_map]; show ms.length + 1 ≤ 1000; omega)) fun b6 hb6 => ?_
      have B6 := (B5.mv (Same.upd (o := .lst (ms.map V.int ++ [V.non])) hb6)).add (y := .ref b6) (tb_lst (ds := ms.map .int ++ [.none]) upd_same (B5.eo.fr hb6) ((IsAll.ints _).append (.cons .non .nil)) (by rw [List.length_append, List.length_map]; show _ + 1 ≤ 40; omega) (okDs_app (okDs_ints ms) (okDs_one okn okDs_nil)) (rnd_out (d := .none) (List.mem_append_right _ List.mem_cons_self) rfl))
      generalize upd G10 b6 (.lst (ms.map V.int ++ [V.non])) = G11 at B6
      clear B4 B5 g5 f5
      obtain ⟨oa2, ob2, xs2, ex2, ea2, eb2, hxs2⟩ := is_ord B6.eo.ix
      cases ex2
      walk_at "rd"
      refine ⟨by show 1 ≤ sizeLine; decide, fun b7 hb7 => ?_⟩
      have f7 := Same.upd (o := .lst [V.int (n : Nat)]) hb7
      have B7 := B6.mv f7
      have g7 : upd G11 b7 (.lst [V.int (n : Nat)]) b7 = some (.lst [V.int (n : Nat)]) := upd_same
      generalize upd G11 b7 (.lst [V.int (n : Nat)]) = G12 at B7 g7
      refine rd_cat B7.ep g7 (small_ln (by rw [List.length_map]; show ms.length + 1 ≤ 1000; omega)) fun b8 hb8 => ?_
      have B8 := (B7.mv (Same.upd (o := .lst (ms.map V.int ++ [V.int (n : Nat)])) hb8)).add (y := .ref b8) (tb_lst (ds := ms.map .int ++ [.int (n : Nat)]) upd_same (B7.eo.fr hb8) ((IsAll.ints _).append (.cons (.int _) .nil)) (by rw [List.length_append, List.length_map]; show _ + 1 ≤ 40; omega) (okDs_app (okDs_ints ms) (okDs_one ⟨rfl, Nat.zero_le _⟩ okDs_nil)) (rnd_out (d := .int (n : Nat)) (List.mem_append_right _ List.mem_cons_self) (whole_no (.inr (Int.le_refl _)))))
      generalize upd G12 b8 (.lst (ms.map V.int ++ [V.int (n : Nat)])) = G13 at B8
      clear B6 B7 g7 f7 ea2 eb2 hxs2
      walk_at "rd"
      refine ⟨1, rfl, ?_⟩
      walk_at "rd"
      refine ⟨by show 1 ≤ sizeLine; decide, fun b9 hb9 => ?_⟩
      have B9 := B8.mv (Same.upd (o := .lst [V.int (-1)]) hb9)
      have g9 : upd G13 b9 (.lst [V.int (-1)]) b9 = some (.lst [V.int (-1)]) := upd_same
      generalize upd G13 b9 (.lst [V.int (-1)]) = G14 at B9 g9
      walk_at "rd"
      refine rd_cat g9 B9.ep (small_ln (by rw [List.length_map]; show 1 + ms.length ≤ 1000; omega)) fun b10 hb10 => ?_
      have B10 := (B9.mv (Same.upd (o := .lst ([V.int (-1)] ++ ms.map V.int)) hb10)).add (y := .ref b10) (tb_lst (ds := .int (-1) :: ms.map .int) upd_same (B9.eo.fr hb10) (.cons (.int _) (IsAll.ints _)) (by rw [List.length_cons, List.length_map]; omega) (okDs_one ⟨rfl, Nat.zero_le _⟩ (okDs_ints ms)) (rnd_out (d := .int (-1)) List.mem_cons_self (whole_no (.inl (by decide)))))
      generalize upd G14 b10 (.lst ([V.int (-1)] ++ ms.map V.int)) = G15 at B10
      clear B8 B9 g9
      walk_at "rd"
      refine ⟨by show 1 ≤ sizeLine; decide, fun b11 hb11 => ?_⟩
      have B11 := B10.mv (Same.upd (o := .lst [V.bl true]) hb11)
      have g11 : upd G15 b11 (.lst [V.bl true]) b11 = some (.lst [V.bl true]) := upd_same
      generalize upd G15 b11 (.lst [V.bl true]) = G16 at B11 g11
      walk_at "rd"
      refine rd_cat g11 B11.ep (small_ln (by rw [List.length_map]; show 1 + ms.length ≤ 1000; omega)) fun b12 hb12 => ?_
      have B12 := (B11.mv (Same.upd (o := .lst ([V.bl true] ++ ms.map V.int)) hb12)).add (y := .ref b12) (tb_lst (ds := .bool true :: ms.map .int) upd_same (B11.eo.fr hb12) (.cons (.bl _) (IsAll.ints _)) (by rw [List.length_cons, List.length_map]; omega) (okDs_one ⟨rfl, Nat.zero_le _⟩ (okDs_ints ms)) (rnd_out (d := .bool true) List.mem_cons_self rfl))
      generalize upd G16 b12 (.lst ([V.bl true] ++ ms.map V.int)) = G17 at B12
      clear B10 B11 g11
      walk_at "rd"
      refine ⟨by show 9 ≤ sizeLine; decide, fun b13 hb13 => ?_⟩
      have n13 := B12.eo.fr hb13
      have B13 := B12.mv (Same.upd (o := .lst [V.non, V.ref b1, V.ref b2, V.ref b3, V.ref b4, V.ref b6, V.ref b8, V.ref b10, V.ref b12]) hb13)
      have g13 : upd G17 b13 (.lst [V.non, V.ref b1, V.ref b2, V.ref b3, V.ref b4, V.ref b6, V.ref b8, V.ref b10, V.ref b12]) b13 = some (.lst [V.non, V.ref b1, V.ref b2, V.ref b3, V.ref b4, V.ref b6, V.ref b8, V.ref b10, V.ref b12]) := upd_same
      generalize upd G17 b13 (.lst [V.non, V.ref b1, V.ref b2, V.ref b3, V.ref b4, V.ref b6, V.ref b8, V.ref b10, V.ref b12]) = G18 at B13 g13
      have all : ∀ y ∈ [V.non, V.ref b1, V.ref b2, V.ref b3, V.ref b4, V.ref b6, V.ref b8, V.ref b10, V.ref b12], Tb n ps st G18 tw y := B13.at'
      obtain ⟨tz, htz, hlz⟩ := B13.eo.twn
      walk_at "rd"
      refine ⟨a, ns, tw, tz, b13, _, rfl, B13.eo.scr, htz, by omega, g13, n13, by show 0 < 9; decide, fun y G19 tz19 s19 ht19 hl19 hy => ?_⟩
      obtain ⟨o, hT, hro⟩ := (all y hy).t s19
      have E19 : Eo K G19 a ns tw (.ref oa) n ps 121 := B13.eo.draw s19 ht19 (by omega)
      walk_at "rd"
      refine ⟨_, y, n, ps, st, o, rfl, E19.ix, ho, st1, st9, hT.same cut_sub, fun G20 s20 => ?_⟩
      rw [hro]
      walk_at "rd"
      exact q _
end
end My

set_option Elab.async false
set_option linter.all false
set_option maxRecDepth 100000
set_option maxHeartbeats 4000000
namespace My
open PySem L2
theorem of0 {P : List Value → Prop} (h : P []) (us : List Value) (e : us.length = 0) : P us := by
  cases us with
  | nil => exact h
  | cons a us => cases e
theorem of1 {P : List Value → Prop} (h : ∀ a, P [a]) (us : List Value) (e : us.length = 1) : P us := by
  cases us with
  | nil => cases e
  | cons a us => exact of0 (P := fun us => P (a :: us)) (h a) us (Nat.succ.inj e)
theorem of2 {P : List Value → Prop} (h : ∀ a b, P [a, b]) (us : List Value) (e : us.length = 2) : P us := by
  cases us with
  | nil => cases e
  | cons a us => exact of1 (P := fun us => P (a :: us)) (h a) us (Nat.succ.inj e)
theorem of3 {P : List Value → Prop} (h : ∀ a b c, P [a, b, c]) (us : List Value) (e : us.length = 3) : P us := by
  cases us with
  | nil => cases e
  | cons a us => exact of2 (P := fun us => P (a :: us)) (h a) us (Nat.succ.inj e)
theorem of4 {P : List Value → Prop} (h : ∀ a b c d, P [a, b, c, d]) (us : List Value) (e : us.length = 4) : P us := by
  cases us with
  | nil => cases e
  | cons a us => exact of3 (P := fun us => P (a :: us)) (h a) us (Nat.succ.inj e)
theorem of5 {P : List Value → Prop} (h : ∀ a b c d f, P [a, b, c, d, f]) (us : List Value) (e : us.length = 5) : P us := by
  cases us with
  | nil => cases e
  | cons a us => exact of4 (P := fun us => P (a :: us)) (h a) us (Nat.succ.inj e)
theorem mkF {K : PySem.W.Frag} {h : Heap} {mg : Str → Option Value} (X : K.In h) (G : h.Ns mainGlobals mg) {f : Str} {st : Stmt} {ps : List Str} {a : Addr} {od an : Option Addr} {sl : Array (Option Value)} {oc kV dc pm cd ct : Value}
    (hb : ∀ (kV doc pm : Value) (an : Option Addr) (cdv ct : Value) (us : List Value), us.length = ps.length → bindArgs (PySem.W.fnOf f f (defArgs st) (defBody st) (defScope st) .none kV doc pm an cdv ct) ⟨us, []⟩ = pure (ps.zip us))
    (e : PySem.W.nsIn K mainGlobals f = some (some (.ref a))) (l : K.lookup a = some ⟨oc, od, .func (PySem.W.fnOf f f (defArgs st) (defBody st) (defScope st) .none kV dc pm an cd ct), sl⟩) (c : PySem.W.codeIn K cd f = true) (k : PySem.W.keepIn K (.ref a) = true) :
    ∃ a d, mg f = some (.ref a) ∧ Fun K f f st a d ∧ Binds K d ps [] := by
  have F := fun_mk (st := st) l c k
  exact ⟨a, _, PySem.W.mg_of X G e, F, F.binds hb⟩
theorem mkN {K : PySem.W.Frag} {h : Heap} {mg : Str → Option Value} (X : K.In h) (G : h.Ns mainGlobals mg) {f : Str} (e : PySem.W.nsIn K mainGlobals f = some none) : mg f = none := PySem.W.mg_none_of X G e
theorem mkM {K : PySem.W.Frag} {h : Heap} {mg : Str → Option Value} (X : K.In h) (G : h.Ns mainGlobals mg) {f : Str} {C : Addr} (e : PySem.W.nsIn K mainGlobals f = some (some (.ref C))) : mg f = some (.ref C) := PySem.W.mg_of X G e
theorem mkC {K : PySem.W.Frag} {h : Heap} {mg : Str → Option Value} (X : K.In h) (G : h.Ns mainGlobals mg) {f : Str} {n : Int} {tk : Tok} (e : PySem.W.nsIn K mainGlobals f = some (some (.int n tk))) : ∃ tk, mg f = some (.int n tk) := ⟨tk, PySem.W.mg_of X G e⟩
theorem law_binds {K : PySem.W.Frag} {a : Addr} {fd : FuncData} (F : Fun K "law" "law" s_law a fd) (s : Shared) (v : Value) : BindsTo s fd ⟨[v], []⟩ [("_law_script", v)] := by
  obtain ⟨oc, od, kV, doc, pm, an, cdv, ct, osl, rfl, lk, hcd⟩ := F.ex
  exact .of_eq rfl
theorem walk {l : PySem.W.OpenLaw} {q : Program} {loose : List Str} {XP : (Str → Option Value) → Heap → Prop} {YP : World → Heap → Prop} {d : DefRec} {K : Params → PySem.W.Frag} (hn : l.most = some 63) (hdf : d.params.defaults = [])
    (hY : ∀ (w : World) (h : Heap), YP w h → (K w.params).In h)
    (F : ∀ (w : World) (mg : Str → Option Value) (fa : Addr) (h : Heap), (K w.params).In h → h.Ns mainGlobals mg → mg d.name = some (.ref fa) →
      ∃ fd : FuncData, (∀ (s : Shared) (u : Value), BindsTo s fd ⟨[u], []⟩ [("_law_script", u)]) ∧ ∀ base : Heap, (K w.params).In base → base.Ns mainGlobals mg → FnOk l.prog w (K w.params) mg base CX0 9 fa fd ["_law_script"] (spLaw (K w.params))) :
    PySem.W.WalkO q loose XP YP l.row.toRowW d [] (fun f vs => PySem.call f vs) :=
  L2.walk_of (n := 63) (k := 9) (x := "_law_script") (CX := fun _ => CX0) (sp := fun w => spLaw (K w.params)) hn (by decide) hdf ⟨rfl, by decide, by decide⟩ hY F (fun _ _ a ns _ hO hS => ⟨a, ns, rfl, Scr.of hO hS, fun _ => rfl⟩) fun _ _ _ _ _ z => z
end My
open PySem PySem.W PyProof.Rows
set_option maxRecDepth 100000 in
set_option maxHeartbeats 0 in
theorem PySem.Challenge.cw_noticed_k04_whole_rounds_holds : PySem.Challenge.rw_noticed_k04_whole_rounds.Holds := by
  w_on; o_law; k_head; (case hw => w_witness2)
  k_fill
  refine My.walk (l := PySem.Challenge.rw_noticed_k04_whole_rounds) rfl rfl (fun w h Y => PySem.W.kIn_of Y) ?F
  case F =>
    intro w mg fa h KX G hmg
    have TS : (∃ a d, mg "is_whole" = some (PySem.Value.ref a) ∧ L2.Fun (L2.KOf KX) "is_whole" "is_whole" My.s_is_whole a d ∧ L2.Binds (L2.KOf KX) d ["value", "low", "high"] []) ∧ (∃ a d, mg "is_thing" = some (PySem.Value.ref a) ∧ L2.Fun (L2.KOf KX) "is_thing" "is_thing" My.s_is_thing a d ∧ L2.Binds (L2.KOf KX) d ["value", "many"] []) ∧ (∃ a d, mg "is_pair" = some (PySem.Value.ref a) ∧ L2.Fun (L2.KOf KX) "is_pair" "is_pair" My.s_is_pair a d ∧ L2.Binds (L2.KOf KX) d ["value", "many"] []) ∧ (∃ a d, mg "is_rising" = some (PySem.Value.ref a) ∧ L2.Fun (L2.KOf KX) "is_rising" "is_rising" My.s_is_rising a d ∧ L2.Binds (L2.KOf KX) d ["pairs"] []) ∧ (∃ a d, mg "is_order" = some (PySem.Value.ref a) ∧ L2.Fun (L2.KOf KX) "is_order" "is_order" My.s_is_order a d ∧ L2.Binds (L2.KOf KX) d ["value"] []) ∧ (∃ a d, mg "is_step" = some (PySem.Value.ref a) ∧ L2.Fun (L2.KOf KX) "is_step" "is_step" My.s_is_step a d ∧ L2.Binds (L2.KOf KX) d ["value"] []) ∧ (∃ a d, mg "need_order" = some (PySem.Value.ref a) ∧ L2.Fun (L2.KOf KX) "need_order" "need_order" My.s_need_order a d ∧ L2.Binds (L2.KOf KX) d ["value"] []) ∧ (∃ a d, mg "need_step" = some (PySem.Value.ref a) ∧ L2.Fun (L2.KOf KX) "need_step" "need_step" My.s_need_step a d ∧ L2.Binds (L2.KOf KX) d ["value"] []) ∧ (∃ a d, mg "demand" = some (PySem.Value.ref a) ∧ L2.Fun (L2.KOf KX) "demand" "demand" My.s_demand a d ∧ L2.Binds (L2.KOf KX) d ["pairs", "step", "one", "other"] []) ∧ (∃ a d, mg "all_demands" = some (PySem.Value.ref a) ∧ L2.Fun (L2.KOf KX) "all_demands" "all_demands" My.s_all_demands a d ∧ L2.Binds (L2.KOf KX) d ["order", "step"] []) ∧ (∃ a d, mg "raise_once" = some (PySem.Value.ref a) ∧ L2.Fun (L2.KOf KX) "raise_once" "raise_once" My.s_raise_once a d ∧ L2.Binds (L2.KOf KX) d ["demands", "values", "origins"] []) ∧ (∃ a d, mg "raise_all" = some (PySem.Value.ref a) ∧ L2.Fun (L2.KOf KX) "raise_all" "raise_all" My.s_raise_all a d ∧ L2.Binds (L2.KOf KX) d ["demands", "values", "origins"] []) ∧ (∃ a d, mg "least_values" = some (PySem.Value.ref a) ∧ L2.Fun (L2.KOf KX) "least_values" "least_values" My.s_least_values a d ∧ L2.Binds (L2.KOf KX) d ["many", "demands"] []) ∧ (∃ a d, mg "round_behind" = some (PySem.Value.ref a) ∧ L2.Fun (L2.KOf KX) "round_behind" "round_behind" My.s_round_behind a d ∧ L2.Binds (L2.KOf KX) d ["origins", "raised"] []) ∧ (∃ a d, mg "things_in_round" = some (PySem.Value.ref a) ∧ L2.Fun (L2.KOf KX) "things_in_round" "things_in_round" My.s_things_in_round a d ∧ L2.Binds (L2.KOf KX) d ["many", "demands"] []) ∧ (∃ a d, mg "numbers" = some (PySem.Value.ref a) ∧ L2.Fun (L2.KOf KX) "numbers" "numbers" My.s_numbers a d ∧ L2.Binds (L2.KOf KX) d ["order", "step"] []) ∧ (∃ a d, mg "round_of" = some (PySem.Value.ref a) ∧ L2.Fun (L2.KOf KX) "round_of" "round_of" My.s_round_of a d ∧ L2.Binds (L2.KOf KX) d ["order", "step"] []) ∧ (∃ a d, mg "are_unlike_things" = some (PySem.Value.ref a) ∧ L2.Fun (L2.KOf KX) "are_unlike_things" "are_unlike_things" My.s_are_unlike_things a d ∧ L2.Binds (L2.KOf KX) d ["value", "many"] []) ∧ (∃ a d, mg "come_above_nothing" = some (PySem.Value.ref a) ∧ L2.Fun (L2.KOf KX) "come_above_nothing" "come_above_nothing" My.s_come_above_nothing a d ∧ L2.Binds (L2.KOf KX) d ["demands"] []) ∧ (∃ a d, mg "is_round" = some (PySem.Value.ref a) ∧ L2.Fun (L2.KOf KX) "is_round" "is_round" My.s_is_round a d ∧ L2.Binds (L2.KOf KX) d ["order", "step", "thing"] []) ∧ (∃ a d, mg "_law_cell_at" = some (PySem.Value.ref a) ∧ L2.Fun (L2.KOf KX) "_law_cell_at" "_law_cell_at" My.s__law_cell_at a d ∧ L2.Binds (L2.KOf KX) d ["_law_script", "_law_k"] []) ∧ (∃ a d, mg "_law_mixed" = some (PySem.Value.ref a) ∧ L2.Fun (L2.KOf KX) "_law_mixed" "_law_mixed" My.s__law_mixed a d ∧ L2.Binds (L2.KOf KX) d ["_law_script", "_law_k", "_law_many"] []) ∧ (∃ a d, mg "_law_draw" = some (PySem.Value.ref a) ∧ L2.Fun (L2.KOf KX) "_law_draw" "_law_draw" My.s__law_draw a d ∧ L2.Binds (L2.KOf KX) d ["_law_script", "_law_town", "_law_many"] []) ∧ (∃ a d, mg "_law_pick" = some (PySem.Value.ref a) ∧ L2.Fun (L2.KOf KX) "_law_pick" "_law_pick" My.s__law_pick a d ∧ L2.Binds (L2.KOf KX) d ["_law_script", "_law_town", "_law_some"] []) ∧ (∃ a d, mg "_law_by" = some (PySem.Value.ref a) ∧ L2.Fun (L2.KOf KX) "_law_by" "_law_by" My.s__law_by a d ∧ L2.Binds (L2.KOf KX) d ["_law_step", "_law_longs"] []) ∧ (∃ a d, mg "_law_order" = some (PySem.Value.ref a) ∧ L2.Fun (L2.KOf KX) "_law_order" "_law_order" My.s__law_order a d ∧ L2.Binds (L2.KOf KX) d ["_law_script", "_law_town", "_law_most"] []) ∧ (∃ a d, mg "_law_least" = some (PySem.Value.ref a) ∧ L2.Fun (L2.KOf KX) "_law_least" "_law_least" My.s__law_least a d ∧ L2.Binds (L2.KOf KX) d ["_law_order_here", "_law_step"] []) ∧ (∃ a d, mg "_law_due" = some (PySem.Value.ref a) ∧ L2.Fun (L2.KOf KX) "_law_due" "_law_due" My.s__law_due a d ∧ L2.Binds (L2.KOf KX) d ["_law_order_here", "_law_step", "_law_thing"] []) ∧ (∃ a d, mg "law" = some (PySem.Value.ref a) ∧ L2.Fun (L2.KOf KX) "law" "law" My.s_law a d ∧ L2.Binds (L2.KOf KX) d ["_law_script"] []) ∧ (mg "all" = none) ∧ (mg "bool" = none) ∧ (mg "int" = none) ∧ (mg "isinstance" = none) ∧ (mg "len" = none) ∧ (mg "list" = none) ∧ (mg "max" = none) ∧ (mg "range" = none) ∧ (mg "reversed" = none) ∧ (mg "set" = none) ∧ (mg "sorted" = none) ∧ (mg "sum" = none) ∧ (mg "tuple" = none) ∧ (mg "zip" = none) ∧ (∃ tk, mg "MOST_STEP" = some (PySem.Value.int 999 tk)) ∧ (∃ tk, mg "MOST_THINGS" = some (PySem.Value.int 8 tk)) := by
      refine' ⟨?t0, ?t1, ?t2, ?t3, ?t4, ?t5, ?t6, ?t7, ?t8, ?t9, ?t10, ?t11, ?t12, ?t13, ?t14, ?t15, ?t16, ?t17, ?t18, ?t19, ?t20, ?t21, ?t22, ?t23, ?t24, ?t25, ?t26, ?t27, ?t28, ?t29, ?t30, ?t31, ?t32, ?t33, ?t34, ?t35, ?t36, ?t37, ?t38, ?t39, ?t40, ?t41, ?t42, ?t43, ?t44⟩
      case t0 =>
        dsimp only [L2.KOf]
        refine' My.mkF KX G ?hb ?e ?l ?c ?k
        (case hb => exact fun _ _ _ _ _ _ => My.of3 (fun _ _ _ => rfl))
        (case e => k_is); (case l => k_is); (case c => k_is); (case k => k_is)
      case t1 =>
        dsimp only [L2.KOf]
        refine' My.mkF KX G ?hb ?e ?l ?c ?k
        (case hb => exact fun _ _ _ _ _ _ => My.of2 (fun _ _ => rfl))
        (case e => k_is); (case l => k_is); (case c => k_is); (case k => k_is)
      case t2 =>
        dsimp only [L2.KOf]
        refine' My.mkF KX G ?hb ?e ?l ?c ?k
        (case hb => exact fun _ _ _ _ _ _ => My.of2 (fun _ _ => rfl))
        (case e => k_is); (case l => k_is); (case c => k_is); (case k => k_is)
      case t3 =>
        dsimp only [L2.KOf]
        refine' My.mkF KX G ?hb ?e ?l ?c ?k
        (case hb => exact fun _ _ _ _ _ _ => My.of1 (fun _ => rfl))
        (case e => k_is); (case l => k_is); (case c => k_is); (case k => k_is)
      case t4 =>
        dsimp only [L2.KOf]
        refine' My.mkF KX G ?hb ?e ?l ?c ?k
        (case hb => exact fun _ _ _ _ _ _ => My.of1 (fun _ => rfl))
        (case e => k_is); (case l => k_is); (case c => k_is); (case k => k_is)
      case t5 =>
        dsimp only [L2.KOf]
        refine' My.mkF KX G ?hb ?e ?l ?c ?k
        (case hb => exact fun _ _ _ _ _ _ => My.of1 (fun _ => rfl))
        (case e => k_is); (case l => k_is); (case c => k_is); (case k => k_is)
      case t6 =>
        dsimp only [L2.KOf]
        refine' My.mkF KX G ?hb ?e ?l ?c ?k
        (case hb => exact fun _ _ _ _ _ _ => My.of1 (fun _ => rfl))
        (case e => k_is); (case l => k_is); (case c => k_is); (case k => k_is)
      case t7 =>
        dsimp only [L2.KOf]
        refine' My.mkF KX G ?hb ?e ?l ?c ?k
        (case hb => exact fun _ _ _ _ _ _ => My.of1 (fun _ => rfl))
        (case e => k_is); (case l => k_is); (case c => k_is); (case k => k_is)
      case t8 =>
        dsimp only [L2.KOf]
        refine' My.mkF KX G ?hb ?e ?l ?c ?k
        (case hb => exact fun _ _ _ _ _ _ => My.of4 (fun _ _ _ _ => rfl))
        (case e => k_is); (case l => k_is); (case c => k_is); (case k => k_is)
      case t9 =>
        dsimp only [L2.KOf]
        refine' My.mkF KX G ?hb ?e ?l ?c ?k
        (case hb => exact fun _ _ _ _ _ _ => My.of2 (fun _ _ => rfl))
        (case e => k_is); (case l => k_is); (case c => k_is); (case k => k_is)
      case t10 =>
        dsimp only [L2.KOf]
        refine' My.mkF KX G ?hb ?e ?l ?c ?k
        (case hb => exact fun _ _ _ _ _ _ => My.of3 (fun _ _ _ => rfl))
        (case e => k_is); (case l => k_is); (case c => k_is); (case k => k_is)
      case t11 =>
        dsimp only [L2.KOf]
        refine' My.mkF KX G ?hb ?e ?l ?c ?k
        (case hb => exact fun _ _ _ _ _ _ => My.of3 (fun _ _ _ => rfl))
        (case e => k_is); (case l => k_is); (case c => k_is); (case k => k_is)
      case t12 =>
        dsimp only [L2.KOf]
        refine' My.mkF KX G ?hb ?e ?l ?c ?k
        (case hb => exact fun _ _ _ _ _ _ => My.of2 (fun _ _ => rfl))
        (case e => k_is); (case l => k_is); (case c => k_is); (case k => k_is)
      case t13 =>
        dsimp only [L2.KOf]
        refine' My.mkF KX G ?hb ?e ?l ?c ?k
        (case hb => exact fun _ _ _ _ _ _ => My.of2 (fun _ _ => rfl))
        (case e => k_is); (case l => k_is); (case c => k_is); (case k => k_is)
      case t14 =>
        dsimp only [L2.KOf]
        refine' My.mkF KX G ?hb ?e ?l ?c ?k
        (case hb => exact fun _ _ _ _ _ _ => My.of2 (fun _ _ => rfl))
        (case e => k_is); (case l => k_is); (case c => k_is); (case k => k_is)
      case t15 =>
        dsimp only [L2.KOf]
        refine' My.mkF KX G ?hb ?e ?l ?c ?k
        (case hb => exact fun _ _ _ _ _ _ => My.of2 (fun _ _ => rfl))
        (case e => k_is); (case l => k_is); (case c => k_is); (case k => k_is)
      case t16 =>
        dsimp only [L2.KOf]
        refine' My.mkF KX G ?hb ?e ?l ?c ?k
        (case hb => exact fun _ _ _ _ _ _ => My.of2 (fun _ _ => rfl))
        (case e => k_is); (case l => k_is); (case c => k_is); (case k => k_is)
      case t17 =>
        dsimp only [L2.KOf]
        refine' My.mkF KX G ?hb ?e ?l ?c ?k
        (case hb => exact fun _ _ _ _ _ _ => My.of2 (fun _ _ => rfl))
        (case e => k_is); (case l => k_is); (case c => k_is); (case k => k_is)
      case t18 =>
        dsimp only [L2.KOf]
        refine' My.mkF KX G ?hb ?e ?l ?c ?k
        (case hb => exact fun _ _ _ _ _ _ => My.of1 (fun _ => rfl))
        (case e => k_is); (case l => k_is); (case c => k_is); (case k => k_is)
      case t19 =>
        dsimp only [L2.KOf]
        refine' My.mkF KX G ?hb ?e ?l ?c ?k
        (case hb => exact fun _ _ _ _ _ _ => My.of3 (fun _ _ _ => rfl))
        (case e => k_is); (case l => k_is); (case c => k_is); (case k => k_is)
      case t20 =>
        dsimp only [L2.KOf]
        refine' My.mkF KX G ?hb ?e ?l ?c ?k
        (case hb => exact fun _ _ _ _ _ _ => My.of2 (fun _ _ => rfl))
        (case e => k_is); (case l => k_is); (case c => k_is); (case k => k_is)
      case t21 =>
        dsimp only [L2.KOf]
        refine' My.mkF KX G ?hb ?e ?l ?c ?k
        (case hb => exact fun _ _ _ _ _ _ => My.of3 (fun _ _ _ => rfl))
        (case e => k_is); (case l => k_is); (case c => k_is); (case k => k_is)
      case t22 =>
        dsimp only [L2.KOf]
        refine' My.mkF KX G ?hb ?e ?l ?c ?k
        (case hb => exact fun _ _ _ _ _ _ => My.of3 (fun _ _ _ => rfl))
        (case e => k_is); (case l => k_is); (case c => k_is); (case k => k_is)
      case t23 =>
        dsimp only [L2.KOf]
        refine' My.mkF KX G ?hb ?e ?l ?c ?k
        (case hb => exact fun _ _ _ _ _ _ => My.of3 (fun _ _ _ => rfl))
        (case e => k_is); (case l => k_is); (case c => k_is); (case k => k_is)
      case t24 =>
        dsimp only [L2.KOf]
        refine' My.mkF KX G ?hb ?e ?l ?c ?k
        (case hb => exact fun _ _ _ _ _ _ => My.of2 (fun _ _ => rfl))
        (case e => k_is); (case l => k_is); (case c => k_is); (case k => k_is)
      case t25 =>
        dsimp only [L2.KOf]
        refine' My.mkF KX G ?hb ?e ?l ?c ?k
        (case hb => exact fun _ _ _ _ _ _ => My.of3 (fun _ _ _ => rfl))
        (case e => k_is); (case l => k_is); (case c => k_is); (case k => k_is)
      case t26 =>
        dsimp only [L2.KOf]
        refine' My.mkF KX G ?hb ?e ?l ?c ?k
        (case hb => exact fun _ _ _ _ _ _ => My.of2 (fun _ _ => rfl))
        (case e => k_is); (case l => k_is); (case c => k_is); (case k => k_is)
      case t27 =>
        dsimp only [L2.KOf]
        refine' My.mkF KX G ?hb ?e ?l ?c ?k
        (case hb => exact fun _ _ _ _ _ _ => My.of3 (fun _ _ _ => rfl))
        (case e => k_is); (case l => k_is); (case c => k_is); (case k => k_is)
      case t28 =>
        dsimp only [L2.KOf]
        refine' My.mkF KX G ?hb ?e ?l ?c ?k
        (case hb => exact fun _ _ _ _ _ _ => My.of1 (fun _ => rfl))
        (case e => k_is); (case l => k_is); (case c => k_is); (case k => k_is)
      case t29 =>
        refine' My.mkN KX G ?e
        (case e => k_is)
      case t30 =>
        refine' My.mkN KX G ?e
        (case e => k_is)
      case t31 =>
        refine' My.mkN KX G ?e
        (case e => k_is)
      case t32 =>
        refine' My.mkN KX G ?e
        (case e => k_is)
      case t33 =>
        refine' My.mkN KX G ?e
        (case e => k_is)
      case t34 =>
        refine' My.mkN KX G ?e
        (case e => k_is)
      case t35 =>
        refine' My.mkN KX G ?e
        (case e => k_is)
      case t36 =>
        refine' My.mkN KX G ?e
        (case e => k_is)
      case t37 =>
        refine' My.mkN KX G ?e
        (case e => k_is)
      case t38 =>
        refine' My.mkN KX G ?e
        (case e => k_is)
      case t39 =>
        refine' My.mkN KX G ?e
        (case e => k_is)
      case t40 =>
        refine' My.mkN KX G ?e
        (case e => k_is)
      case t41 =>
        refine' My.mkN KX G ?e
        (case e => k_is)
      case t42 =>
        refine' My.mkN KX G ?e
        (case e => k_is)
      case t43 =>
        refine' My.mkC KX G ?e
        (case e => k_is)
      case t44 =>
        refine' My.mkC KX G ?e
        (case e => k_is)
    obtain ⟨⟨a0, d0, m0, F0, b0⟩, ⟨a1, d1, m1, F1, b1⟩, ⟨a2, d2, m2, F2, b2⟩, ⟨a3, d3, m3, F3, b3⟩, ⟨a4, d4, m4, F4, b4⟩, ⟨a5, d5, m5, F5, b5⟩, ⟨a6, d6, m6, F6, b6⟩, ⟨a7, d7, m7, F7, b7⟩, ⟨a8, d8, m8, F8, b8⟩, ⟨a9, d9, m9, F9, b9⟩, ⟨a10, d10, m10, F10, b10⟩, ⟨a11, d11, m11, F11, b11⟩, ⟨a12, d12, m12, F12, b12⟩, ⟨a13, d13, m13, F13, b13⟩, ⟨a14, d14, m14, F14, b14⟩, ⟨a15, d15, m15, F15, b15⟩, ⟨a16, d16, m16, F16, b16⟩, ⟨a17, d17, m17, F17, b17⟩, ⟨a18, d18, m18, F18, b18⟩, ⟨a19, d19, m19, F19, b19⟩, ⟨a20, d20, m20, F20, b20⟩, ⟨a21, d21, m21, F21, b21⟩, ⟨a22, d22, m22, F22, b22⟩, ⟨a23, d23, m23, F23, b23⟩, ⟨a24, d24, m24, F24, b24⟩, ⟨a25, d25, m25, F25, b25⟩, ⟨a26, d26, m26, F26, b26⟩, ⟨a27, d27, m27, F27, b27⟩, ⟨a28, d28, m28, F28, b28⟩, N0, N1, N2, N3, N4, N5, N6, N7, N8, N9, N10, N11, N12, N13, C0, C1⟩ := TS
    have T : My.Txt (L2.KOf KX) mg ⟨a0, d0, a1, d1, a2, d2, a3, d3, a4, d4, a5, d5, a6, d6, a7, d7, a8, d8, a9, d9, a10, d10, a11, d11, a12, d12, a13, d13, a14, d14, a15, d15, a16, d16, a17, d17, a18, d18, a19, d19, a20, d20, a21, d21, a22, d22, a23, d23, a24, d24, a25, d25, a26, d26, a27, d27, a28, d28⟩ := ⟨m0, F0, b0, m1, F1, b1, m2, F2, b2, m3, F3, b3, m4, F4, b4, m5, F5, b5, m6, F6, b6, m7, F7, b7, m8, F8, b8, m9, F9, b9, m10, F10, b10, m11, F11, b11, m12, F12, b12, m13, F13, b13, m14, F14, b14, m15, F15, b15, m16, F16, b16, m17, F17, b17, m18, F18, b18, m19, F19, b19, m20, F20, b20, m21, F21, b21, m22, F22, b22, m23, F23, b23, m24, F24, b24, m25, F25, b25, m26, F26, b26, m27, F27, b27, m28, F28, b28, N0, N1, N2, N3, N4, N5, N6, N7, N8, N9, N10, N11, N12, N13, C0, C1⟩
    have e := hmg.symm.trans m28
    cases e
    exact ⟨_, My.law_binds F28, fun base _ _ => My.ok_law T⟩
#print axioms PySem.Challenge.cw_noticed_k04_whole_rounds_holds
