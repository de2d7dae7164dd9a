import PyProof.Rows.All
import Wide.All
import OpenK.AllK
import Wide.FinOn
import Lean
import PyProof.EqAt
import PyProof.EqKinds
import PyProof.TupleCall
import PyProof.P3Eq
import PyProof.P3In
import PyProof.NeData
import KE.KSortTup
import KE.LcSums
import PyProof.Rows.TupAdd
import KE.KTryMore
import OpenK.KOwn
import PyProof.NsDelKeeps
import PyProof.ExcArgsOwn
import KE.KIsAll
import KE.KLam
import KE.KMinKey
import KE.KNest
import KE.KNestM
import KE.KRevIter
import PyProof.Draws
import PyProof.EnumMake
import PyProof.FactsAll.tuple
import PyProof.ListMulRoad
import PyProof.ListRange
import PyProof.Rows.MinMaxN
import PyProof.SliceList
import PyProof.TupleOfSeq
import PyProof.WalksMore
import PyProof.ZipIter
import PySem.Challenge.RW_noticed_k01_orders
set_option Elab.async false
set_option linter.all false
set_option maxRecDepth 100000
/-! THE HAND LAYER, for ints, bools, texts, own classes, LISTS and tuples (index, slices, in, append, pop ..), calls, loops. Paste it whole ahead of your own text; what your proof does not reach may be deleted. -/
namespace L2
open PySem PySem.Spec PyProof.Rows

/-- a key: an int or a str -/
noncomputable abbrev Key := Sum Int Str
noncomputable def keyIs : Key → Value → Bool
  | .inl k, v => Value.isInt k v
  | .inr x, v => Value.isStrOf x v
noncomputable def keyH (w : World) : Key → Int
  | .inl k => hashInt k
  | .inr x => hashStr w x
theorem keyIs_shape : ∀ {k : Key} {v : Value}, keyIs k v = true → (∃ i t, k = Sum.inl i ∧ v = Value.int i t) ∨ (∃ x t, k = Sum.inr x ∧ v = Value.str x t)
  | .inl i, v, h => by
    obtain ⟨t, e⟩ := Value.isInt_shape (k := i) (v := v) h
    exact .inl ⟨i, t, rfl, e⟩
  | .inr x, v, h => by
    obtain ⟨t, e⟩ := Value.isStrOf_shape (x := x) (v := v) h
    exact .inr ⟨x, t, rfl, e⟩
theorem key_ll (a b : Int) : decide ((Sum.inl a : Key) = Sum.inl b) = (a == b) := by
  by_cases e : a = b
  · subst e; simp
  · have h : ¬ (Sum.inl a : Key) = Sum.inl b := fun q => e (Sum.inl.inj q)
    rw [decide_eq_false h]
    exact (beq_eq_false_iff_ne.mpr e).symm
theorem key_rr (a b : Str) : decide ((Sum.inr a : Key) = Sum.inr b) = decide (a = b) := by
  by_cases e : a = b
  · subst e; simp
  · have h : ¬ (Sum.inr a : Key) = Sum.inr b := fun q => e (Sum.inr.inj q)
    rw [decide_eq_false h, decide_eq_false e]
theorem key_lr (a : Int) (b : Str) : decide ((Sum.inl a : Key) = Sum.inr b) = false := decide_eq_false (fun q => nomatch q)
theorem key_rl (a : Str) (b : Int) : decide ((Sum.inr a : Key) = Sum.inl b) = false := decide_eq_false (fun q => nomatch q)

noncomputable def mixKind (prog : Program) (w : World) : PySem.KeyKind prog w Key where
  is := keyIs
  hash := keyH w
  inj := fun v a b ha hb => by
    rcases keyIs_shape ha with ⟨i, t, rfl, rfl⟩ | ⟨x, t, rfl, rfl⟩
    · rcases keyIs_shape hb with ⟨j, u, rfl, e⟩ | ⟨y, u, rfl, e⟩
      · injection e with e1 _; rw [e1]
      · exact nomatch e
    · rcases keyIs_shape hb with ⟨j, u, rfl, e⟩ | ⟨y, u, rfl, e⟩
      · exact nomatch e
      · injection e with e1 _; rw [e1]
  byValue := fun k v h => by
    rcases keyIs_shape h with ⟨i, t, rfl, rfl⟩ | ⟨x, t, rfl, rfl⟩ <;> rfl
  pyHash := fun hv h => by
    rcases keyIs_shape hv with ⟨i, t, rfl, rfl⟩ | ⟨x, t, rfl, rfl⟩
    · exact wpAny_pyHash_int h
    · exact wpAny_pyHash_str h
  eqBool := fun hu hv h => by
    rcases keyIs_shape hu with ⟨i, t, rfl, rfl⟩ | ⟨x, t, rfl, rfl⟩
    · rcases keyIs_shape hv with ⟨j, u, rfl, rfl⟩ | ⟨y, u, rfl, rfl⟩
      · rw [key_ll] at h; exact wpAny_eqBool_int h
      · rw [key_lr] at h; exact SeqAt.EqAt.int_str i t y u _ _ _ _ h
    · rcases keyIs_shape hv with ⟨j, u, rfl, rfl⟩ | ⟨y, u, rfl, rfl⟩
      · rw [key_rl] at h; exact SeqAt.EqAt.str_int x t j u _ _ _ _ h
      · rw [key_rr] at h; exact wpAny_eqBool_str h
  «strs» := fun k x t v h => by
    rcases keyIs_shape h with ⟨i, u, rfl, e⟩ | ⟨y, u, rfl, e⟩
    · exact nomatch e
    · injection e with e1 _
      subst e1
      cases v <;> rfl

end L2

namespace L2
open PySem PySem.Spec PyProof.Rows

/-- a value, without the heap -/
inductive V where
  | non | bl (b : Bool) | int (i : Int) | str (x : Str) | byt (b : Array UInt8) | flt (b : UInt64) | ref (a : Addr) | ty (n : String)
  deriving DecidableEq

noncomputable def RelV : V → Value → Prop
  | .non, u => u = Value.none
  | .bl b, u => u = Value.bool b
  | .int i, u => ∃ t, u = Value.int i t
  | .str x, u => ∃ t, u = Value.str x t
  | .byt b, u => ∃ t, u = Value.bytes b t
  | .flt b, u => ∃ t, u = Value.float b t
  | .ref a, u => u = Value.ref a
  | .ty n, u => u = Value.type n

noncomputable abbrev Vals : List V → List Value → Prop := Paired RelV
theorem Vals.length {xs : List V} {us : List Value} (r : Vals xs us) : xs.length = us.length := Paired.length r
theorem Vals.get : ∀ {xs : List V} {us : List Value} {i : Nat} {x : V}, Vals xs us → xs[i]? = some x → ∃ u, us[i]? = some u ∧ RelV x u
  | _, _, _, _, .nil, e => by simp at e
  | _, _, 0, _, .cons r _, e => by simp at e; subst e; exact ⟨_, rfl, r⟩
  | _, _, i + 1, x, .cons _ t, e => by
    obtain ⟨u, h1, h2⟩ := Vals.get (i := i) (x := x) t (by simpa using e)
    exact ⟨u, by simpa using h1, h2⟩
theorem Vals.set {x : V} {u : Value} (r : RelV x u) : ∀ {xs : List V} {us : List Value} (i : Nat), Vals xs us → Vals (xs.set i x) (us.set i u)
  | _, _, _, .nil => .nil
  | _, _, 0, .cons _ t => .cons r t
  | _, _, i + 1, .cons q t => .cons q (Vals.set r i t)
theorem Vals.append : ∀ {xs ys : List V} {us ws : List Value}, Vals xs us → Vals ys ws → Vals (xs ++ ys) (us ++ ws)
  | _, _, _, _, .nil, s => s
  | _, _, _, _, .cons r t, s => .cons r (Vals.append t s)
theorem Vals.take : ∀ {xs : List V} {us : List Value} (n : Nat), Vals xs us → Vals (xs.take n) (us.take n)
  | _, _, 0, _ => .nil
  | _, _, _ + 1, .nil => .nil
  | _, _, n + 1, .cons r t => .cons r (Vals.take n t)
theorem Vals.drop : ∀ {xs : List V} {us : List Value} (n : Nat), Vals xs us → Vals (xs.drop n) (us.drop n)
  | _, _, 0, r => r
  | _, _, _ + 1, .nil => .nil
  | _, _, n + 1, .cons _ t => Vals.drop n t
theorem Vals.none_of : ∀ {xs : List V} {us : List Value} {i : Nat}, Vals xs us → xs[i]? = none → us[i]? = none := fun {xs us i} r e => by
  have h1 := r.length
  have h2 : xs.length ≤ i := List.getElem?_eq_none_iff.mp e
  exact List.getElem?_eq_none_iff.mpr (by omega)

noncomputable def RelO : Option V → Option Value → Prop
  | some v, some u => RelV v u
  | none, none => True
  | _, _ => False
noncomputable def KV {κ : Type} : List (κ × V) → List (κ × Value) → Prop := Paired fun (p : κ × V) (q : κ × Value) => p.1 = q.1 ∧ RelV p.2 q.2

/-- a key of a dict (00_mix): an int or a text -/
noncomputable def kV : Key → V
  | .inl i => .int i
  | .inr x => .str x

/-- what stands at a tracked address -/
inductive HO where
  /-- a list -/
  | lst (xs : List V)
  /-- a tuple (never changes) -/
  | tup (xs : List V)
  /-- a dict whose keys are ints and texts; one whose keys are tuples of ints and texts (the empty one is both) -/
  | dK (kvs : List (Key × V)) | dT (kvs : List (List Key × V))
  /-- a set of ints: its members, its size -/
  | set (S : Int → Bool) (n : Nat)
  /-- an instance of the class at C, its dict at dx, its attributes -/
  | ins (C dx : Addr) (fs : List (Str × V))
  /-- the dict of the instance at x -/
  | own (x : Addr)
  /-- the dict of an exception -/
  | xd (fs : List (Str × V))
  /-- a bound method, f of x -/
  | met (f x : Addr)
  /-- a range object lo, lo + 1, .. below hi -/
  | rng (lo hi : Int)
  /-- a thing that is known to the object (the script; a dict while a loop walks it): read, never written while it is so -/
  | frz (o : Obj) (u : HO)
  /-- a code object's table -/
  | tbl (ps : Array Value)
  /-- any other thing, by what is true of its one object (a def of one's own: SetO a S n := HO.ext fun h => ..) -/
  | ext (φ : Heap → Prop)

noncomputable abbrev Hp := Addr → Option HO
noncomputable def upd (H : Hp) (a : Addr) (o : HO) : Hp := fun b => if b = a then some o else H b
theorem upd_same {H : Hp} {a : Addr} {o : HO} : upd H a o a = some o := by unfold upd; rw [if_pos rfl]
theorem upd_ne {H : Hp} {a b : Addr} {o : HO} (h : b ≠ a) : upd H a o b = H b := by unfold upd; rw [if_neg h]
/-- two objects of different content stand apart -/
theorem ne_of {H : Hp} {a b : Addr} {o u : HO} (h : H a = some o) (h' : H b = some u) (d : o ≠ u) : a ≠ b := by
  intro e; subst e; rw [h] at h'; exact d (Option.some.inj h')
theorem ne_of_none {H : Hp} {a b : Addr} {o : HO} (h : H a = some o) (h' : H b = none) : a ≠ b := by
  intro e; subst e; rw [h] at h'; cases h'

noncomputable def IsTupN (h : Heap) (a : Addr) (items : Array Value) : Prop := IsTup h a items ∧ ∃ o, h.get? a = some o ∧ o.dict = none
theorem IsTupN.new (h : Heap) (items : Array Value) : IsTupN (h.push { cls := .type "tuple", data := .seq items }) h.objs.size items := ⟨IsTup.new h items, _, Heap.get?_push_size _ rfl, rfl⟩
section
variable (P : Program) (w : World)
noncomputable def ObjOk (H : Hp) (h : Heap) (a : Addr) : HO → Prop
  | .lst xs => xs.length ≤ sizeLine ∧ ∃ (its : List Value) (n : Nat), Vals xs its ∧ h.get? a = some { cls := .type "list", data := .seq its.toArray n }
  | .tup xs => xs.length ≤ sizeLine ∧ ∃ its : List Value, Vals xs its ∧ IsTupN h a its.toArray
  | .dK kvs => kvs.length ≤ sizeLine ∧ (a == sysModules) = false ∧ ∃ vs, KV kvs vs ∧ h.DictOf (mixKind P w) a vs
  | .dT kvs => kvs.length ≤ sizeLine ∧ (a == sysModules) = false ∧ ∃ xs : List (List Key × Addr × Value),
      Paired (fun (p : List Key × V) (q : List Key × Addr × Value) => p.1 = q.1 ∧ H q.2.1 = some (.tup (p.1.map kV)) ∧ RelV p.2 q.2.2) kvs xs ∧
      ∃ o es ep, h.get? a = some o ∧ o.ExactDict ∧ o.data = .dict es ep ∧ es.toList = xs.map (entryOfKey (tupleKind (mixKind P w))) ∧ (xs.map (·.1)).Nodup
  | .set S n => h.SetOf (intKind P w) a S n
  | .ins C dx fs => H dx = some (.own a) ∧ fs.length ≤ 1000 ∧ dx ≠ a ∧ h.get? a = some (PySem.W.instObj C dx) ∧
      ∃ mA, h.Ns1 dx mA ∧ (∀ f, RelO (fs.lookup f) (mA f)) ∧ PySem.Within mA (fs.map (·.1))
  | .own _ => ∃ o, h.get? a = some o
  | .xd fs => ∃ mA, h.Ns1 a mA ∧ ∀ f, RelO (fs.lookup f) (mA f)
  | .rng lo hi => ∃ t u v, h.get? a = some { cls := .type "range", data := .fields #[.int lo t, .int hi u, .int 1 v] }
  | .frz o u => h.get? a = some o ∧ ObjOk H h a u
  | .tbl ps => h.get? a = some { cls := .none, data := .fields ps }
  | .met f x => h.get? a = some (PySem.W.methodObj (.ref f) (.ref x))
  | .ext φ => φ h ∧ (∃ o, h.get? a = some o) ∧ ∀ h1 h2 : Heap, φ h1 → (∀ o, h1.get? a = some o → h2.get? a = some o) → φ h2
/-- the abstract heap is held -/
noncomputable def HOk (H : Hp) (h : Heap) : Prop := ∀ a o, H a = some o → ObjOk P w H h a o
end

section
variable {P : Program} {w : World} {H H' : Hp} {h h' : Heap} {a : Addr} {o : HO}
theorem ObjOk.lt (x : ObjOk P w H h a o) : a < h.objs.size := by
  cases o with
  | lst xs => obtain ⟨_, _, _, _, e⟩ := x; exact Heap.lt_size e
  | tup xs => obtain ⟨_, _, _, p⟩ := x; exact p.1.lt
  | dK kvs => obtain ⟨_, _, _, _, o, _, _, e, _⟩ := x; exact Heap.lt_size e
  | dT kvs => obtain ⟨_, _, _, _, o, _, _, e, _⟩ := x; exact Heap.lt_size e
  | set S n => obtain ⟨o, _, _, _, e, _⟩ := x; exact Heap.lt_size e
  | ins C dx fs => obtain ⟨_, _, _, e, _⟩ := x; exact Heap.lt_size e
  | own y => obtain ⟨_, e⟩ := x; exact Heap.lt_size e
  | xd fs => obtain ⟨_, ⟨_, _, _, e, _⟩, _⟩ := x; exact Heap.lt_size e
  | rng lo hi => obtain ⟨_, _, _, e⟩ := x; exact Heap.lt_size e
  | frz ob u => obtain ⟨e, _⟩ := x; exact Heap.lt_size e
  | tbl ps => exact Heap.lt_size (show h.get? a = some _ from x)
  | met f y => exact Heap.lt_size (show h.get? a = some _ from x)
  | ext φ => obtain ⟨_, ⟨_, e⟩, _⟩ := x; exact Heap.lt_size e
theorem Paired.mapP {α β : Type} {F G : α → β → Prop} : ∀ {l₁ : List α} {l₂ : List β}, Paired F l₁ l₂ → (∀ a b, F a b → G a b) → Paired G l₁ l₂
  | _, _, .nil, _ => .nil
  | _, _, .cons r t, f => .cons (f _ _ r) (Paired.mapP t f)
/-- what an object's description leans on: its own object, its own dict, the tuples -/
theorem ObjOk.stay (x : ObjOk P w H h a o) (k : ∀ b u, (b = a ∨ H b = some (.own a)) → h.get? b = some u → h'.get? b = some u)
    (ho : ∀ b, H b = some (.own a) → H' b = some (.own a)) (ht : ∀ b xs, H b = some (.tup xs) → H' b = some (.tup xs)) : ObjOk P w H' h' a o := by
  induction o with
  | lst xs => obtain ⟨z, its, n, r, e⟩ := x; exact ⟨z, its, n, r, k _ _ (.inl rfl) e⟩
  | tup xs => obtain ⟨z, its, r, ⟨ob, e, c⟩, ob2, e2, c2⟩ := x; exact ⟨z, its, r, ⟨ob, k _ _ (.inl rfl) e, c⟩, ob2, k _ _ (.inl rfl) e2, c2⟩
  | dK kvs => obtain ⟨z, y, vs, r, ob, es, ep, e, c⟩ := x; exact ⟨z, y, vs, r, ob, es, ep, k _ _ (.inl rfl) e, c⟩
  | dT kvs =>
    obtain ⟨z, y, xs, r, ob, es, ep, e, c⟩ := x
    exact ⟨z, y, xs, Paired.mapP r fun p q z => ⟨z.1, ht _ _ z.2.1, z.2.2⟩, ob, es, ep, k _ _ (.inl rfl) e, c⟩
  | set S n => obtain ⟨ob, es, ep, t, e, c⟩ := x; exact ⟨ob, es, ep, t, k _ _ (.inl rfl) e, c⟩
  | ins C dx fs =>
    obtain ⟨d, z, ne, e, mA, ⟨od, es, ep, e2, c⟩, r⟩ := x
    exact ⟨ho _ d, z, ne, k _ _ (.inl rfl) e, mA, ⟨od, es, ep, k _ _ (.inr d) e2, c⟩, r⟩
  | own y => obtain ⟨ob, e⟩ := x; exact ⟨ob, k _ _ (.inl rfl) e⟩
  | xd fs => obtain ⟨mA, ⟨od, es, ep, e, c⟩, r⟩ := x; exact ⟨mA, ⟨od, es, ep, k _ _ (.inl rfl) e, c⟩, r⟩
  | rng lo hi => obtain ⟨t, u, v, e⟩ := x; exact ⟨t, u, v, k _ _ (.inl rfl) e⟩
  | frz ob u ih => obtain ⟨e, q⟩ := x; exact ⟨k _ _ (.inl rfl) e, ih q⟩
  | tbl ps =>
    have e : h.get? a = some { cls := .none, data := .fields ps } := x
    show h'.get? a = some { cls := .none, data := .fields ps }
    exact k a _ (.inl rfl) e
  | met f y =>
    have e : h.get? a = some (PySem.W.methodObj (.ref f) (.ref y)) := x
    show h'.get? a = some (PySem.W.methodObj (.ref f) (.ref y))
    exact k a _ (.inl rfl) e
  | ext φ => obtain ⟨p, ⟨o, e⟩, st⟩ := x; exact ⟨st _ _ p fun o q => k _ _ (.inl rfl) q, ⟨o, k _ _ (.inl rfl) e⟩, st⟩
theorem HOk.lt (x : HOk P w H h) (e : H a = some o) : a < h.objs.size := (x a o e).lt
theorem HOk.fresh (x : HOk P w H h) (e : h.objs.size ≤ a) : H a = none := by
  cases q : H a with
  | none => rfl
  | some u => exact absurd (Nat.lt_of_lt_of_le (x.lt q) e) (Nat.lt_irrefl _)
/-- every object of the heap is kept -/
theorem HOk.kept (x : HOk P w H h) (k : ∀ b u, h.get? b = some u → h'.get? b = some u) : HOk P w H h' := fun a o e =>
  (x a o e).stay (fun b u _ q => k b u q) (fun _ q => q) fun _ _ q => q
/-- a new object is laid and tracked -/
theorem HOk.laid (x : HOk P w H h) (k : ∀ b u, h.get? b = some u → h'.get? b = some u) (hp : h.objs.size ≤ a) (new : ObjOk P w (upd H a o) h' a o) : HOk P w (upd H a o) h' := fun b u e => by
  have hn := x.fresh hp
  by_cases hb : b = a
  · subst hb; rw [upd_same] at e; cases e; exact new
  · rw [upd_ne hb] at e
    exact (x b u e).stay (fun c v _ q => k c v q) (fun c q => by rw [upd_ne (ne_of_none q hn)]; exact q) fun c xs q => by rw [upd_ne (ne_of_none q hn)]; exact q
end

/-- what may be read as u: it is u, or a known u -/
noncomputable def Rd (H : Hp) (a : Addr) (u : HO) : Prop := H a = some u ∨ ∃ o, H a = some (.frz o u)
theorem Rd.of {H : Hp} {a : Addr} {u : HO} (h : H a = some u) : Rd H a u := .inl h
theorem Rd.ok {P : Program} {w : World} {H : Hp} {h : Heap} {a : Addr} {u : HO} (r : Rd H a u) (x : HOk P w H h) : ObjOk P w H h a u := by
  rcases r with r | ⟨o, r⟩
  · exact x a u r
  · obtain ⟨_, q⟩ := x a _ r
    exact q
/-- what may be written -/
noncomputable def Mut : Option HO → Prop
  | some (.lst _) => True
  | some (.dK _) => True
  | some (.dT _) => True
  | some (.set _ _) => True
  | some (.ins _ _ _) => True
  | some (.ext _) => True
  | _ => False
section
variable {P : Program} {w : World} {H : Hp} {h h' : Heap} {x e : Addr} {o' : HO}
/-- the object at e is changed: x itself, or the dict of the instance x -/
theorem HOk.write (ok : HOk P w H h) (mu : Mut (H x)) (he : e = x ∨ H e = some (.own x)) (k : ∀ b u, b ≠ e → h.get? b = some u → h'.get? b = some u) (heo : ∃ u, h'.get? e = some u)
    (new : ObjOk P w (upd H x o') h' x o') : HOk P w (upd H x o') h' := fun b u q => by
  have nown : ∀ c y, H c = some (.own y) → c ≠ x := fun c y r z => by subst z; rw [r] at mu; exact mu
  have ntup : ∀ c xs, H c = some (.tup xs) → c ≠ x := fun c xs r z => by subst z; rw [r] at mu; exact mu
  by_cases hb : b = x
  · subst hb; rw [upd_same] at q; cases q; exact new
  · rw [upd_ne hb] at q
    by_cases hbe : b = e
    · have q' : H b = some (.own x) := by
        rcases he with z | z
        · exact absurd (hbe.trans z) hb
        · rw [hbe]; exact z
      rw [q] at q'; cases q'
      obtain ⟨v, hv⟩ := heo
      exact ⟨v, by rw [hbe]; exact hv⟩
    · refine (ok b u q).stay (fun c v hc r => k c v ?_ r) (fun c r => by rw [upd_ne (nown c b r)]; exact r) fun c xs r => by rw [upd_ne (ntup c xs r)]; exact r
      rcases hc with rfl | hc
      · exact hbe
      · rintro rfl
        rcases he with z | z
        · exact nown c b hc z
        · rw [hc] at z; cases z; exact hb rfl
end

/-! ### kept unless tracked; of the frames at fs (the callers') the slots may change (an exception that passes writes there); of the records at ex (iterators) nothing is said -/
structure Un (fs ex : List Addr) (H H' : Hp) (h h' : Heap) : Prop where
  keep : ∀ b o, h.get? b = some o → H b = none → b ∉ fs → b ∉ ex → h'.get? b = some o
  slot : ∀ b o, h.get? b = some o → H b = none → b ∈ fs → b ∉ ex → ∃ sl, h'.get? b = some { o with slots := sl }
  free : ∀ b o, h.get? b = some o → H b = none → b ∉ ex → H' b = none
  there : ∀ b o, h.get? b = some o → b ∉ ex → ∃ o', h'.get? b = some o'
  tups : ∀ b xs, H b = some (.tup xs) → H' b = some (.tup xs)
  frzs : ∀ b o u, H b = some (.frz o u) → H' b = some (.frz o u)
  tbls : ∀ b ps, H b = some (.tbl ps) → ∃ more, H' b = some (.tbl (ps ++ more))
section
variable {fs fs' ex ex' : List Addr} {H H1 H2 : Hp} {h h1 h2 h' : Heap} {a x e : Addr} {o : HO}
theorem Un.any (u : Un fs ex H H1 h h1) {b : Addr} {ob : Obj} (q : h.get? b = some ob) (n : H b = none) (hx : b ∉ ex) : ∃ sl, h1.get? b = some { ob with slots := sl } := by
  by_cases hb : b ∈ fs
  · exact u.slot b ob q n hb hx
  · exact ⟨ob.slots, u.keep b ob q n hb hx⟩
theorem Un.trans (a : Un fs ex H H1 h h1) (b : Un fs ex H1 H2 h1 h2) : Un fs ex H H2 h h2 where
  keep := fun c ob q n hc hx => b.keep c ob (a.keep c ob q n hc hx) (a.free c ob q n hx) hc hx
  slot := fun c ob q n hc hx => by
    obtain ⟨sl, e1⟩ := a.slot c ob q n hc hx
    obtain ⟨sl', e2⟩ := b.slot c _ e1 (a.free c ob q n hx) hc hx
    exact ⟨sl', e2⟩
  free := fun c ob q n hx => by
    obtain ⟨o', e1⟩ := a.there c ob q hx
    exact b.free c o' e1 (a.free c ob q n hx) hx
  there := fun c ob q hx => by
    obtain ⟨o', e1⟩ := a.there c ob q hx
    exact b.there c o' e1 hx
  tups := fun c xs q => b.tups c xs (a.tups c xs q)
  frzs := fun c ob xs q => b.frzs c ob xs (a.frzs c ob xs q)
  tbls := fun c ps q => by
    obtain ⟨m1, e1⟩ := a.tbls c ps q
    obtain ⟨m2, e2⟩ := b.tbls c _ e1
    exact ⟨m1 ++ m2, by rw [e2, Array.append_assoc]⟩
theorem Un.kept (k : ∀ b u, h.get? b = some u → h'.get? b = some u) : Un fs ex H H h h' :=
  ⟨fun b ob q _ _ _ => k b ob q, fun b ob q _ _ _ => ⟨ob.slots, k b ob q⟩, fun _ _ _ n _ => n, fun b ob q _ => ⟨ob, k b ob q⟩, fun _ _ q => q, fun _ _ _ q => q, fun _ ps q => ⟨#[], by rw [q]; simp⟩⟩
theorem Un.refl : Un fs ex H H h h := Un.kept fun _ _ q => q
theorem Un.laid (k : ∀ b u, h.get? b = some u → h'.get? b = some u) (hp : h.objs.size ≤ a) (hn : H a = none) : Un fs ex H (upd H a o) h h' where
  keep := fun b u q _ _ _ => k b u q
  slot := fun b u q _ _ _ => ⟨u.slots, k b u q⟩
  free := fun b u q n _ => by rw [upd_ne (Nat.ne_of_lt (Nat.lt_of_lt_of_le (Heap.lt_size q) hp))]; exact n
  there := fun b u q _ => ⟨u, k b u q⟩
  tups := fun b xs q => by rw [upd_ne (ne_of_none q hn)]; exact q
  frzs := fun b u xs q => by rw [upd_ne (ne_of_none q hn)]; exact q
  tbls := fun b ps q => ⟨#[], by rw [upd_ne (ne_of_none q hn), q]; simp⟩
theorem Un.write (mu : Mut (H x)) (he : e = x ∨ H e = some (.own x)) (k : ∀ b u, b ≠ e → h.get? b = some u → h'.get? b = some u) (heo : ∃ u, h'.get? e = some u) : Un fs ex H (upd H x o) h h' := by
  have hx : ∀ b, H b = none → b ≠ x := fun b n z => by subst z; rw [n] at mu; exact mu
  have hb : ∀ b, H b = none → b ≠ e := fun b n z => by
    subst z
    rcases he with r | r
    · exact hx b n r
    · rw [n] at r; cases r
  have hm : ∀ b u, H b = some u → ¬ Mut (some u) → b ≠ x := fun b u q nm z => by subst z; rw [q] at mu; exact nm mu
  refine ⟨fun b u q n _ _ => k b u (hb b n) q, fun b u q n _ _ => ⟨u.slots, k b u (hb b n) q⟩, fun b u q n _ => by rw [upd_ne (hx b n)]; exact n, fun b u q _ => ?_,
    fun b xs q => by rw [upd_ne (hm b _ q fun z => z)]; exact q, fun b u xs q => by rw [upd_ne (hm b _ q fun z => z)]; exact q, fun b ps q => ⟨#[], by rw [upd_ne (hm b _ q fun z => z), q]; simp⟩⟩
  by_cases hbe : b = e
  · subst hbe; exact heo
  · exact ⟨u, k b u hbe q⟩
theorem Un.mono (u : Un fs ex H H1 h h1) (hs : ∀ b ∈ fs, b ∈ fs') (hx : ∀ b ∈ ex, b ∈ ex') : Un fs' ex' H H1 h h1 :=
  ⟨fun b ob q n hb he => u.keep b ob q n (fun z => hb (hs b z)) fun z => he (hx b z), fun _ _ q n _ he => u.any q n fun z => he (hx _ z), fun b ob q n he => u.free b ob q n fun z => he (hx b z), fun b ob q he => u.there b ob q fun z => he (hx b z), u.tups, u.frzs, u.tbls⟩
end

/-! ### the heap without what is tracked -/
noncomputable def trk (h : Heap) (H : Hp) : List Addr := (List.range h.objs.size).filter fun a => (H a).isSome
noncomputable def hidT (h : Heap) (H : Hp) : Heap := PySem.W.hideAll h (trk h H)
theorem hidT_size (h : Heap) (H : Hp) : (hidT h H).objs.size = h.objs.size := PySem.W.hideAll_size _ _
theorem hidT_get {h : Heap} {H : Hp} {b : Addr} {o : Obj} (e : h.get? b = some o) (n : H b = none) : (hidT h H).get? b = some o :=
  PySem.W.hideAll_get _ e fun hm => by
    have q : (H b).isSome = true := (List.mem_filter.mp hm).2
    rw [n] at q; simp at q
theorem of_hidT {h : Heap} {H : Hp} {b : Addr} {o : Obj} (e : (hidT h H).get? b = some o) : h.get? b = some o ∧ H b = none := by
  have e' : h.get? b = some o := PySem.W.of_hideAll (trk h H) e
  refine ⟨e', ?_⟩
  cases q : H b with
  | none => rfl
  | some x =>
    have hm : b ∈ trk h H := List.mem_filter.mpr ⟨List.mem_range.mpr (Heap.lt_size e'), by simp [q]⟩
    have z : (hidT h H).get? b = none := PySem.W.hideAll_none (trk h H) hm
    rw [z] at e; cases e

/-! ### OpenK's ledger, filled with every new object but one -/
noncomputable def allNews (g h : Heap) (L : Addr) : List (Addr × Obj) := (List.range h.objs.size).filterMap fun a => if a = L ∨ (g.get? a).isSome = true then none else (h.get? a).map fun o => (a, o)
theorem mem_allNews {g h : Heap} {L a : Addr} {o : Obj} (h1 : a ≠ L) (h2 : g.get? a = none) (h3 : h.get? a = some o) : (a, o) ∈ allNews g h L :=
  List.mem_filterMap.mpr ⟨a, List.mem_range.mpr (Heap.lt_size h3), by simp [h1, h2, h3]⟩
theorem of_mem_allNews {g h : Heap} {L : Addr} {p : Addr × Obj} (hp : p ∈ allNews g h L) : p.1 ≠ L ∧ g.get? p.1 = none ∧ h.get? p.1 = some p.2 := by
  obtain ⟨b, _, e⟩ := List.mem_filterMap.mp hp
  split at e
  · cases e
  · rename_i hn
    cases q : h.get? b with
    | none => rw [q] at e; simp at e
    | some u =>
      rw [q] at e
      simp only [Option.map_some, Option.some.injEq] at e
      subst e
      refine ⟨fun z => hn (.inl z), ?_, q⟩
      show g.get? b = none
      cases r : g.get? b with
      | none => rfl
      | some v => exact (hn (.inr (by simp [r]))).elim
noncomputable def rest (g h : Heap) (L d : Addr) : List (Addr × Obj) := (allNews g h L).filter fun p => decide (p.1 ≠ d)
theorem news_all {g h : Heap} {L : Addr} : News g L h (allNews g h L) := fun p hp => let ⟨a, b, c⟩ := of_mem_allNews hp; ⟨c, a, b⟩
end L2

namespace L2
open PySem PySem.Spec PyProof.Rows

/-- the module's facts, over the base: the heap at the law's entry without what is tracked there -/
structure Mod (K : PySem.W.Frag) (mg : Str → Option Value) (base : Heap) : Prop where
  kin : K.In base
  glob : base.Ns mainGlobals mg
  blt : ∃ mb, base.Ns builtinsNs mb ∧ ∀ x : Str, x ≠ "__name__" → mb x = bootBuiltins x
  nolimit : base.NoLimit

/-- the context: a def's body (or a comprehension's block) running. base: fixed through the whole law; s₀, H₀: the entry; outer: the frames whose slots others may change (a def's callers); stack: all frames that run;
   ex: iterators that were made ahead of the entry and are walked here (a comprehension's); fn: the names whose cells were made at the entry (a def: all; a comprehension's block: its own); calm: not within an except suite; pn: pins that every state bears; xe: what is wanted of an exception that leaves the code -/
structure Cx where
  prog : Program
  w : World
  K : PySem.W.Frag
  mg : Str → Option Value
  base : Heap
  A : Around
  N : List Str
  s₀ : Shared
  H₀ : Hp
  env : Env
  outer : List Env
  stack : List Env
  ex : List Addr
  fn : Str → Bool
  calm : Bool
  pn : List (Addr × Obj)
  xe : Value → Shared → Prop
/-- the callers' frames -/
noncomputable def frs (l : List Env) : List Addr := l.filterMap (·.frame)
noncomputable abbrev Cx.fs (X : Cx) : List Addr := frs X.outer

noncomputable def Vis (sc : Scope) (x : Str) : Prop := sc.names.lookup x = some .local ∨ sc.names.lookup x = some .cell ∨ sc.names.lookup x = some .free
noncomputable def Loc (sc : Scope) (x : Str) : Prop := sc.names.lookup x = some .local ∨ sc.names.lookup x = some .cell
noncomputable def Look (env : Env) (h : Heap) (m : Str → Option Value) (x : Str) (u : Value) : Prop :=
  (env.kindOf x = some .local ∧ m x = some u) ∨ ((env.kindOf x = some .cell ∨ env.kindOf x = some .free) ∧ ∃ c, env.cells.lookup x = some c ∧ h.IsCell c (some u))

structure Cx.Ok (X : Cx) : Prop where
  mod : Mod X.K X.mg X.base
  kind : X.env.scope.kind = .function
  glob : X.env.globals = mainGlobals
  blt : X.env.builtins = builtinsNs
  above : X.s₀.heap.objs.size ≤ X.env.locals
  inj : ∀ x y c, X.env.cells.lookup x = some c → X.env.cells.lookup y = some c → x = y
  has : ∀ x, (X.env.kindOf x = some .cell ∨ X.env.kindOf x = some .free) → ∃ c, X.env.cells.lookup x = some c
  cab : ∀ x c, X.fn x = true → X.env.cells.lookup x = some c → X.s₀.heap.objs.size ≤ c
  hd : X.calm = true → X.A.handled = none
  frames : X.A.frames = some X.stack
  stk : X.stack = X.outer ∨ (X.stack = X.env :: X.outer ∧ X.env.frame = some X.env.locals)
  exf : ∀ b ∈ X.ex, b ≠ X.env.locals ∧ ∀ x c, X.env.cells.lookup x = some c → c ≠ b
  bs : ∀ b o, X.base.get? b = some o → X.s₀.heap.get? b = some o ∧ X.H₀ b = none
  bsz : X.base.objs.size ≤ X.s₀.heap.objs.size
  noex : ∀ b o, X.base.get? b = some o → b ∉ X.ex
  exfs : ∀ b ∈ X.ex, b ∉ X.fs
  funs : X.s₀.heap.FunFrames X.base X.outer
  frf : ∀ b ∈ X.fs, X.H₀ b = none

structure Inv (X : Cx) (pins : List (Addr × Obj)) (σ : List (Option V)) (H : Hp) (s : Shared) : Prop where
  ok : X.Ok
  os : s.os = X.s₀.os
  bare : AllBare s.gens
  base : Un X.fs X.ex X.H₀ H X.s₀.heap s.heap
  loc : ∃ m, s.heap.Ns X.env.locals m ∧ ∀ (i : Nat) (x : Str) (v : V), X.N[i]? = some x → σ[i]? = some (some v) → Vis X.env.scope x → ∃ u, RelV v u ∧ Look X.env s.heap m x u
  cell : ∀ x c, X.env.cells.lookup x = some c → ∃ v, s.heap.IsCell c v
  free : H X.env.locals = none
  freeC : ∀ x c, X.env.cells.lookup x = some c → H c = none
  pin : ∀ p ∈ X.pn ++ pins, s.heap.get? p.1 = some p.2 ∧ H p.1 = none ∧ p.1 ≠ X.env.locals ∧ p.1 ∉ X.fs ∧ ∀ v, p.2.data ≠ .cell v
  hok : HOk X.prog X.w H s.heap
  len : σ.length = X.N.length

section
variable {X : Cx} {pins : List (Addr × Obj)} {σ : List (Option V)} {H H' : Hp} {s : Shared} {h' : Heap}

theorem Cx.Ok.nofr (ok : X.Ok) {b : Addr} {o : Obj} (e : X.base.get? b = some o) : b ∉ X.fs := fun hb => by
  have := (ok.funs.mem hb).1
  rw [e] at this; cases this
theorem Inv.bs (I : Inv X pins σ H s) : ∀ b o, X.base.get? b = some o → s.heap.get? b = some o ∧ H b = none := fun b o e =>
  ⟨I.base.keep b o (I.ok.bs b o e).1 (I.ok.bs b o e).2 (I.ok.nofr e) (I.ok.noex b o e), I.base.free b o (I.ok.bs b o e).1 (I.ok.bs b o e).2 (I.ok.noex b o e)⟩
theorem Inv.bk (I : Inv X pins σ H s) : ∀ b o, X.base.get? b = some o → s.heap.get? b = some o := fun b o e => (I.bs b o e).1
theorem Inv.mod (I : Inv X pins σ H s) : Mod X.K X.mg X.base := I.ok.mod
theorem Inv.kIn (I : Inv X pins σ H s) : X.K.In s.heap := I.ok.mod.kin.keeps I.bk
theorem Inv.nolimit (I : Inv X pins σ H s) : s.heap.NoLimit := I.ok.mod.nolimit.keeps I.bk
/-- the frame over the base: for OpenK's rules (K.In X.base is I.mod.kin) -/
theorem Inv.fr (I : Inv X pins σ H s) : ∃ m, Fr X.base X.env.locals s.heap m :=
  let ⟨m, hn, _⟩ := I.loc
  ⟨m, hn, I.bk, Nat.le_trans I.ok.bsz I.ok.above⟩
theorem Inv.lt (I : Inv X pins σ H s) : X.env.locals < s.heap.objs.size := let ⟨_, hn, _⟩ := I.loc; hn.lt
theorem Inv.sz (I : Inv X pins σ H s) : X.s₀.heap.objs.size ≤ s.heap.objs.size := Nat.le_trans I.ok.above (Nat.le_of_lt I.lt)
theorem Inv.nofs (I : Inv X pins σ H s) {a : Addr} (h : s.heap.objs.size ≤ a) : a ∉ X.fs := fun hb => by
  obtain ⟨_, o, ho, _⟩ := I.ok.funs.mem hb
  exact absurd (Nat.lt_of_lt_of_le (Heap.lt_size ho) (Nat.le_trans I.sz h)) (Nat.lt_irrefl _)
theorem Inv.cne (I : Inv X pins σ H s) : ∀ x c, X.env.cells.lookup x = some c → c ≠ X.env.locals := fun x c e z => by
  obtain ⟨v, o, ho, hd⟩ := I.cell x c e
  obtain ⟨m, ⟨o', es, ep, ho', hd', _⟩, _⟩ := I.loc
  rw [z, ho'] at ho; cases ho; rw [hd'] at hd; cases hd
theorem Inv.funs (I : Inv X pins σ H s) : s.heap.FunFrames X.base X.outer := by
  have all : ∀ (l : List Env), (∀ b ∈ frs l, b ∈ X.fs) → X.s₀.heap.FunFrames X.base l → s.heap.FunFrames X.base l := by
    intro l
    induction l with
    | nil => intro _ _; trivial
    | cons env r ih =>
      intro hs hl
      obtain ⟨hk, ⟨L, o, hf, hn, ho, hd⟩, hr⟩ := hl
      have hL : L ∈ X.fs := hs L (by unfold frs; rw [List.filterMap_cons, hf]; exact List.mem_cons_self)
      obtain ⟨sl, e⟩ := I.base.slot L o ho (I.ok.frf L hL) hL fun z => I.ok.exfs L z hL
      exact ⟨hk, ⟨L, _, hf, hn, e, hd⟩, ih (fun b hb => hs b (by unfold frs; rw [List.filterMap_cons, hf]; exact List.mem_cons_of_mem _ hb)) hr⟩
  exact all X.outer (fun _ hb => hb) I.ok.funs

/-- the frames that run, for a call -/
theorem Inv.stack (I : Inv X pins σ H s) : s.heap.FunFrames X.base X.stack := by
  rcases I.ok.stk with e | ⟨e, hf⟩
  · rw [e]; exact I.funs
  · rw [e]
    obtain ⟨m, hn, _⟩ := I.loc
    refine .cons (by rw [I.ok.kind]; decide) hf hn ?_ I.funs
    exact Heap.get?_none_of_le (Nat.le_trans I.ok.bsz I.ok.above)
theorem Inv.stkSub (I : Inv X pins σ H s) : ∀ b ∈ frs X.stack, b ∈ X.env.locals :: X.fs := fun b hb => by
  rcases I.ok.stk with e | ⟨e, hf⟩
  · rw [e] at hb; exact List.mem_cons_of_mem _ hb
  · rw [e] at hb
    unfold frs at hb
    rw [List.filterMap_cons, hf] at hb
    exact hb
theorem Inv.stkFree (I : Inv X pins σ H s) : ∀ b ∈ frs X.stack, H b = none := fun b hb => by
  rcases List.mem_cons.mp (I.stkSub b hb) with e | hb
  · rw [e]; exact I.free
  · obtain ⟨_, o, ho, _⟩ := I.ok.funs.mem hb
    exact I.base.free b o ho (I.ok.frf b hb) fun z => I.ok.exfs b z hb

/-- THE STEP: the untracked objects but the frame and the records at ch are kept (the callers' frames up to slots), the frame's map is kept, the new abstract heap is held -/
theorem Inv.step {g' : Array GenState} {t' : Nat} {d' : Drawn} {ch : List Addr} (I : Inv X pins σ H s)
    (hch : ∀ b ∈ ch, (b ∈ X.ex ∨ X.s₀.heap.objs.size ≤ b) ∧ b ≠ X.env.locals ∧ (∀ x c, X.env.cells.lookup x = some c → c ≠ b) ∧ ∀ p ∈ X.pn ++ pins, p.1 ≠ b)
    (keep : ∀ b o, b ≠ X.env.locals → b ∉ X.fs → b ∉ ch → s.heap.get? b = some o → H b = none → h'.get? b = some o)
    (slot : ∀ b o, b ≠ X.env.locals → b ∈ X.fs → b ∉ ch → s.heap.get? b = some o → H b = none → ∃ sl, h'.get? b = some { o with slots := sl }) (free : ∀ b o, b ∉ ch → s.heap.get? b = some o → H b = none → H' b = none)
    (there : ∀ b o, b ∉ ch → s.heap.get? b = some o → ∃ o', h'.get? b = some o')
    (tups : ∀ b xs, H b = some (.tup xs) → H' b = some (.tup xs)) (frzs : ∀ b o u, H b = some (.frz o u) → H' b = some (.frz o u)) (tbls : ∀ b ps, H b = some (.tbl ps) → ∃ more, H' b = some (.tbl (ps ++ more)))
    (ns : ∀ m, s.heap.Ns X.env.locals m → h'.Ns X.env.locals m) (hok : HOk X.prog X.w H' h') (hg : AllBare g') :
    Inv X pins σ H' { s with heap := h', gens := g', drawn := d', toks := t' } := by
  have neL : ∀ b o, X.s₀.heap.get? b = some o → b ≠ X.env.locals := fun b o e => Nat.ne_of_lt (Nat.lt_of_lt_of_le (Heap.lt_size e) I.ok.above)
  have neC : ∀ b o, X.s₀.heap.get? b = some o → b ∉ X.ex → b ∉ ch := fun b o e hx hb => by
    rcases (hch b hb).1 with z | z
    · exact hx z
    · exact absurd (Nat.lt_of_lt_of_le (Heap.lt_size e) z) (Nat.lt_irrefl _)
  have cellK : ∀ x c, X.env.cells.lookup x = some c → ∀ v, s.heap.IsCell c v → h'.IsCell c v := fun x c e v ⟨o, ho, hd⟩ => by
    have nch : c ∉ ch := fun z => (hch c z).2.2.1 x c e rfl
    by_cases hc : c ∈ X.fs
    · obtain ⟨sl, q⟩ := slot c o (I.cne x c e) hc nch ho (I.freeC x c e)
      exact ⟨_, q, hd⟩
    · exact ⟨o, keep c o (I.cne x c e) hc nch ho (I.freeC x c e), hd⟩
  refine ⟨I.ok, I.os, hg, ⟨fun b o e n hb hx => ?_, fun b o e n hb hx => ?_, fun b o e n hx => ?_, fun b o e hx => ?_, fun b xs e => tups b xs (I.base.tups b xs e), fun b o xs e => frzs b o xs (I.base.frzs b o xs e), fun b ps e => ?_⟩, ?_, fun x c e => ?_, ?_, fun x c e => ?_, fun p hp => ?_, hok, I.len⟩
  · exact keep b o (neL b o e) hb (neC b o e hx) (I.base.keep b o e n hb hx) (I.base.free b o e n hx)
  · obtain ⟨sl, e1⟩ := I.base.slot b o e n hb hx
    obtain ⟨sl', e2⟩ := slot b _ (neL b o e) hb (neC b o e hx) e1 (I.base.free b o e n hx)
    exact ⟨sl', e2⟩
  · obtain ⟨o', e1⟩ := I.base.there b o e hx
    exact free b o' (neC b o e hx) e1 (I.base.free b o e n hx)
  · obtain ⟨o', e1⟩ := I.base.there b o e hx
    exact there b o' (neC b o e hx) e1
  · obtain ⟨m1, e1⟩ := I.base.tbls b ps e
    obtain ⟨m2, e2⟩ := tbls b _ e1
    exact ⟨m1 ++ m2, by rw [e2, Array.append_assoc]⟩
  · obtain ⟨m, hn, hl⟩ := I.loc
    refine ⟨m, ns m hn, fun i x v e1 e2 e3 => ?_⟩
    obtain ⟨u, r, l⟩ := hl i x v e1 e2 e3
    refine ⟨u, r, ?_⟩
    rcases l with l | ⟨k, c, e, z⟩
    · exact .inl l
    · exact .inr ⟨k, c, e, cellK x c e _ z⟩
  · obtain ⟨v, z⟩ := I.cell x c e
    exact ⟨v, cellK x c e v z⟩
  · obtain ⟨m, ⟨o, _, _, ho, _⟩, _⟩ := I.loc
    exact free _ o (fun z => (hch _ z).2.1 rfl) ho I.free
  · obtain ⟨v, o, ho, hd⟩ := I.cell x c e
    exact free c o (fun z => (hch c z).2.2.1 x c e rfl) ho (I.freeC x c e)
  · obtain ⟨e, n, ne, nf, d⟩ := I.pin p hp
    have nch : p.1 ∉ ch := fun z => (hch p.1 z).2.2.2 p hp rfl
    exact ⟨keep p.1 p.2 ne nf nch e n, free p.1 p.2 nch e n, ne, nf, d⟩
/-- .. where the frame's own object is kept too -/
theorem Inv.un {t' : Nat} (I : Inv X pins σ H s) (u : Un X.fs [] H H' s.heap h') (hok : HOk X.prog X.w H' h') : Inv X pins σ H' { s with heap := h', toks := t' } := by
  obtain ⟨m, ⟨o, es, ep, ho, r⟩, _⟩ := id I.loc
  obtain ⟨sl, hL⟩ := u.any ho I.free (by simp)
  exact I.step (g' := s.gens) (d' := s.drawn) (ch := []) (fun _ z => nomatch z) (fun b o _ hb _ e n => u.keep b o e n hb (by simp)) (fun b o _ hb _ e n => u.slot b o e n hb (by simp)) (fun b o _ e n => u.free b o e n (by simp)) (fun b o _ e => u.there b o e (by simp)) u.tups u.frzs u.tbls (fun m' hm => by
    obtain ⟨o', es', ep', ho', r'⟩ := hm
    rw [ho] at ho'; cases ho'
    exact ⟨_, es', ep', hL, r'⟩) hok I.bare
/-- behind a call (or a comprehension's block): the slots of this frame may have changed too, the records at ch may have turned -/
theorem Inv.call {g' : Array GenState} {t' : Nat} {d' : Drawn} {ch : List Addr} (I : Inv X pins σ H s) (u : Un (frs X.stack) ch H H' s.heap h') (hok : HOk X.prog X.w H' h') (hg : AllBare g')
    (hch : ∀ b ∈ ch, (b ∈ X.ex ∨ X.s₀.heap.objs.size ≤ b) ∧ b ≠ X.env.locals ∧ (∀ x c, X.env.cells.lookup x = some c → c ≠ b) ∧ ∀ p ∈ X.pn ++ pins, p.1 ≠ b) :
    Inv X pins σ H' { s with heap := h', gens := g', drawn := d', toks := t' } := by
  obtain ⟨m, ⟨o, es, ep, ho, r⟩, _⟩ := id I.loc
  obtain ⟨sl, hL⟩ := u.any ho I.free fun z => (hch _ z).2.1 rfl
  exact I.step (ch := ch) hch (fun b o hL hb hc e n => u.keep b o e n (fun z => (List.mem_cons.mp (I.stkSub b z)).elim hL hb) hc) (fun b o _ _ hc e n => u.any e n hc) (fun b o hc e n => u.free b o e n hc) (fun b o hc e => u.there b o e hc) u.tups u.frzs u.tbls (fun m' hm => by
    obtain ⟨o', es', ep', ho', r'⟩ := hm
    rw [ho] at ho'; cases ho'
    exact ⟨_, es', ep', hL, r'⟩) hok hg
/-- an untracked record of ours (an iterator) has turned -/
theorem Inv.turned {t' : Nat} {it : Addr} (I : Inv X pins σ H s) (k : ∀ b o, b ≠ it → s.heap.get? b = some o → h'.get? b = some o) (hn : H it = none) (hL : it ≠ X.env.locals)
    (h1 : it ∈ X.ex ∨ X.s₀.heap.objs.size ≤ it) (h2 : ∀ x c, X.env.cells.lookup x = some c → c ≠ it) (h3 : ∀ p ∈ X.pn ++ pins, p.1 ≠ it) : Inv X pins σ H { s with heap := h', toks := t' } := by
  have nit : ∀ b u, H b = some u → b ≠ it := fun b u e z => by rw [z, hn] at e; cases e
  refine I.step (g' := s.gens) (d' := s.drawn) (ch := [it]) (fun b hb => ?_) (fun b o _ _ hc e _ => k b o (fun z => hc (by simp [z])) e) (fun b o _ _ hc e _ => ⟨o.slots, k b o (fun z => hc (by simp [z])) e⟩) (fun _ _ _ _ n => n)
    (fun b o hc e => ⟨o, k b o (fun z => hc (by simp [z])) e⟩) (fun _ _ e => e) (fun _ _ _ e => e) (fun b ps e => ⟨#[], by rw [e]; simp⟩) (fun m hm => ?_) (fun b u e => ?_) I.bare
  · have e : b = it := by simpa using hb
    subst e
    exact ⟨h1, hL, h2, h3⟩
  · obtain ⟨o, es, ep, ho, r⟩ := hm
    exact ⟨o, es, ep, k _ o (Ne.symm hL) ho, r⟩
  · refine (I.hok b u e).stay (fun c v hc q => k c v ?_ q) (fun _ q => q) fun _ _ q => q
    rcases hc with z | z
    · rw [z]; exact nit b u e
    · exact nit c _ z
theorem Inv.tok (I : Inv X pins σ H s) (t : Nat) : Inv X pins σ H { s with toks := t } := I.un (h' := s.heap) (t' := t) Un.refl I.hok
/-- all objects kept -/
theorem Inv.kept {t' : Nat} (I : Inv X pins σ H s) (k : ∀ b u, s.heap.get? b = some u → h'.get? b = some u) : Inv X pins σ H { s with heap := h', toks := t' } := I.un (Un.kept k) (I.hok.kept k)
/-- a new object laid and tracked -/
theorem Inv.laid {a : Addr} {o : HO} {t' : Nat} (I : Inv X pins σ H s) (k : ∀ b u, s.heap.get? b = some u → h'.get? b = some u) (hp : s.heap.objs.size ≤ a) (new : ObjOk X.prog X.w (upd H a o) h' a o) :
    Inv X pins σ (upd H a o) { s with heap := h', toks := t' } := I.un (Un.laid k hp (I.hok.fresh hp)) (I.hok.laid k hp new)
/-- an object written -/
theorem Inv.write {x e : Addr} {o : HO} {t' : Nat} (I : Inv X pins σ H s) (mu : Mut (H x)) (he : e = x ∨ H e = some (.own x)) (k : ∀ b u, b ≠ e → s.heap.get? b = some u → h'.get? b = some u) (heo : ∃ u, h'.get? e = some u)
    (new : ObjOk X.prog X.w (upd H x o) h' x o) : Inv X pins σ (upd H x o) { s with heap := h', toks := t' } := I.un (Un.write mu he k heo) (I.hok.write mu he k heo new)
/-- forgetting slots, pins -/
theorem Inv.weak {σ' : List (Option V)} (I : Inv X pins σ H s) (hl : σ'.length = σ.length) (w : ∀ (i : Nat) v, σ'[i]? = some (some v) → σ[i]? = some (some v)) : Inv X pins σ' H s :=
  ⟨I.ok, I.os, I.bare, I.base, let ⟨m, hn, hl'⟩ := I.loc; ⟨m, hn, fun i x v e1 e2 e3 => hl' i x v e1 (w i v e2) e3⟩, I.cell, I.free, I.freeC, I.pin, I.hok, hl.trans I.len⟩
theorem Inv.pins_of {pins' : List (Addr × Obj)} (I : Inv X pins σ H s) (h : ∀ p ∈ pins', s.heap.get? p.1 = some p.2 ∧ H p.1 = none ∧ p.1 ≠ X.env.locals ∧ p.1 ∉ X.fs ∧ ∀ v, p.2.data ≠ .cell v) : Inv X pins' σ H s :=
  ⟨I.ok, I.os, I.bare, I.base, I.loc, I.cell, I.free, I.freeC, fun p hp => (List.mem_append.mp hp).elim (fun z => I.pin p (List.mem_append_left _ z)) (h p), I.hok, I.len⟩

theorem nodup_ix {N : List Str} (hN : N.Nodup) {i j : Nat} {x : Str} (a : N[i]? = some x) (b : N[j]? = some x) : i = j := by
  obtain ⟨h1, e1⟩ := List.getElem?_eq_some_iff.mp a
  obtain ⟨h2, e2⟩ := List.getElem?_eq_some_iff.mp b
  exact (List.getElem_inj hN).mp (e1.trans e2.symm)

/-- a name is stored; what changed -/
theorem store_ok2 {M : Model} {A : Around} {E : Value → Shared → Prop} {i : Nat} {x : Str} {v : V} {u : Value} {Q : Unit → Shared → Prop} (I : Inv X pins σ H s) (hN : X.N.Nodup) (hi : X.N[i]? = some x) (hx : Loc X.env.scope x) (r : RelV v u)
    (h : ∀ s', Inv X pins (σ.set i (some v)) H s' → (∃ a, Heap.SameBut a s.heap s'.heap ∧ (a = X.env.locals ∨ X.env.cells.lookup x = some a)) → Q () s') (hf : X.fn x = true ∨ X.env.scope.names.lookup x = some .local := by first | exact .inl rfl | exact .inr rfl | assumption) : wpAny M A (storeName X.env x u) Q E s := by
  obtain ⟨m, hn, hl⟩ := id I.loc
  have hcls : (X.env.scope.kind == .class || (X.env.scope.kind == .module && X.env.locals != X.env.globals)) = false := by rw [I.ok.kind]; rfl
  have hiσ : i < σ.length := by rw [I.len]; exact (List.getElem?_eq_some_iff.mp hi).1
  have cne := I.cne
  have tracked : ∀ {a : Addr} {h' : Heap}, (∃ o, s.heap.get? a = some o ∧ H a = none) → Heap.SameBut a s.heap h' → HOk X.prog X.w H h' := fun {a h'} ha hs b ob e => by
    obtain ⟨_, _, hfree⟩ := ha
    refine (I.hok b ob e).stay (fun c w' hc q => (hs.2 c ?_).trans q) (fun _ q => q) fun _ _ q => q
    rintro rfl
    rcases hc with rfl | hc
    · rw [hfree] at e; cases e
    · rw [hfree] at hc; cases hc
  rcases hx with hk | hk
  · refine wpAny_storeName_local hk hn (fun h' hn' hs => ?_) hcls
    obtain ⟨oL, _, _, hoL, _⟩ := id hn
    refine h _ ⟨I.ok, I.os, I.bare, ⟨fun b o e n hb hx => ?_, fun b o e n hb hx => ?_, I.base.free, fun b o e hx => ?_, I.base.tups, I.base.frzs, I.base.tbls⟩, ⟨_, hn', fun j y v' e1 e2 e3 => ?_⟩, fun y c e => ?_, I.free, I.freeC, fun p hp => ?_, tracked ⟨oL, hoL, I.free⟩ hs, by simpa using I.len⟩ ⟨_, hs, .inl rfl⟩
    · exact (hs.2 b (Nat.ne_of_lt (Nat.lt_of_lt_of_le (Heap.lt_size e) I.ok.above))).trans (I.base.keep b o e n hb hx)
    · obtain ⟨sl, e1⟩ := I.base.slot b o e n hb hx
      exact ⟨sl, (hs.2 b (Nat.ne_of_lt (Nat.lt_of_lt_of_le (Heap.lt_size e) I.ok.above))).trans e1⟩
    · obtain ⟨o', e1⟩ := I.base.there b o e hx
      exact ⟨o', (hs.2 b (Nat.ne_of_lt (Nat.lt_of_lt_of_le (Heap.lt_size e) I.ok.above))).trans e1⟩
    · by_cases hj : j = i
      · subst hj
        rw [hi] at e1; cases e1
        rw [List.getElem?_set_self hiσ] at e2
        cases e2
        exact ⟨u, r, .inl ⟨hk, by simp⟩⟩
      · rw [List.getElem?_set_ne (Ne.symm hj)] at e2
        obtain ⟨u', r', q⟩ := hl j y v' e1 e2 e3
        refine ⟨u', r', ?_⟩
        rcases q with ⟨k, e⟩ | ⟨k, c, e, z⟩
        · refine .inl ⟨k, ?_⟩
          have : y ≠ x := fun e => hj (nodup_ix hN e1 (e ▸ hi))
          simp [this, e]
        · exact .inr ⟨k, c, e, z.sameBut hs (cne y c e)⟩
    · obtain ⟨w', z⟩ := I.cell y c e
      exact ⟨w', z.sameBut hs (cne y c e)⟩
    · obtain ⟨e, n, ne, nf, d⟩ := I.pin p hp
      exact ⟨(hs.2 p.1 ne).trans e, n, ne, nf, d⟩
  · have hfn : X.fn x = true := by
      rcases hf with z | z
      · exact z
      · rw [z] at hk; cases hk
    obtain ⟨c, hc⟩ := I.ok.has x (.inl hk)
    obtain ⟨w', z⟩ := I.cell x c hc
    refine wpAny_storeName_cell I.ok.kind hk hc z (fun h' hc' hs => ?_)
    obtain ⟨oc, hoc, hocd⟩ := id z
    refine h { s with heap := h' } ⟨I.ok, I.os, I.bare, ⟨fun b o e n hb hx => ?_, fun b o e n hb hx => ?_, I.base.free, fun b o e hx => ?_, I.base.tups, I.base.frzs, I.base.tbls⟩, ⟨m, hn.sameBut hs (Ne.symm (cne x c hc)), fun j y v' e1 e2 e3 => ?_⟩, fun y c' e => ?_, I.free, I.freeC, fun p hp => ?_, tracked ⟨oc, hoc, I.freeC x c hc⟩ hs, by simpa using I.len⟩ ⟨c, hs, .inr hc⟩
    · exact (hs.2 b (Nat.ne_of_lt (Nat.lt_of_lt_of_le (Heap.lt_size e) (I.ok.cab x c hfn hc)))).trans (I.base.keep b o e n hb hx)
    · obtain ⟨sl, e1⟩ := I.base.slot b o e n hb hx
      exact ⟨sl, (hs.2 b (Nat.ne_of_lt (Nat.lt_of_lt_of_le (Heap.lt_size e) (I.ok.cab x c hfn hc)))).trans e1⟩
    · obtain ⟨o', e1⟩ := I.base.there b o e hx
      exact ⟨o', (hs.2 b (Nat.ne_of_lt (Nat.lt_of_lt_of_le (Heap.lt_size e) (I.ok.cab x c hfn hc)))).trans e1⟩
    · by_cases hj : j = i
      · subst hj
        rw [hi] at e1; cases e1
        rw [List.getElem?_set_self hiσ] at e2
        cases e2
        exact ⟨u, r, .inr ⟨.inl hk, c, hc, hc'⟩⟩
      · rw [List.getElem?_set_ne (Ne.symm hj)] at e2
        obtain ⟨u', r', q⟩ := hl j y v' e1 e2 e3
        refine ⟨u', r', ?_⟩
        rcases q with q | ⟨k, c', e, z'⟩
        · exact .inl q
        · refine .inr ⟨k, c', e, z'.sameBut hs ?_⟩
          rintro rfl
          exact hj (nodup_ix hN e1 (I.ok.inj _ _ _ e hc ▸ hi))
    · by_cases hcc : c' = c
      · subst hcc; exact ⟨_, hc'⟩
      · obtain ⟨w2, z2⟩ := I.cell y c' e
        exact ⟨w2, z2.sameBut hs hcc⟩
    · obtain ⟨e, n, ne, nf, d⟩ := I.pin p hp
      refine ⟨(hs.2 p.1 ?_).trans e, n, ne, nf, d⟩
      intro q
      rw [q, hoc] at e
      have q' : oc = p.2 := Option.some.inj e
      exact d w' (by rw [← q']; exact hocd)
theorem store_ok {M : Model} {A : Around} {E : Value → Shared → Prop} {i : Nat} {x : Str} {v : V} {u : Value} {Q : Unit → Shared → Prop} (I : Inv X pins σ H s) (hN : X.N.Nodup) (hi : X.N[i]? = some x) (hx : Loc X.env.scope x) (r : RelV v u)
    (h : ∀ s', Inv X pins (σ.set i (some v)) H s' → Q () s') (hf : X.fn x = true ∨ X.env.scope.names.lookup x = some .local := by first | exact .inl rfl | exact .inr rfl | assumption) : wpAny M A (storeName X.env x u) Q E s :=
  store_ok2 I hN hi hx r (fun s' I' _ => h s' I') hf
/-- behind a call or a block, the state as it is -/
theorem Inv.call' {s' : Shared} {ch : List Addr} (I : Inv X pins σ H s) (ho : s'.os = s.os) (u : Un (frs X.stack) ch H H' s.heap s'.heap) (hok : HOk X.prog X.w H' s'.heap) (hg : AllBare s'.gens)
    (hch : ∀ b ∈ ch, (b ∈ X.ex ∨ X.s₀.heap.objs.size ≤ b) ∧ b ≠ X.env.locals ∧ (∀ x c, X.env.cells.lookup x = some c → c ≠ b) ∧ ∀ p ∈ X.pn ++ pins, p.1 ≠ b) : Inv X pins σ H' s' := by
  obtain ⟨h', g', d', t', o'⟩ := s'
  have e : o' = s.os := ho
  subst e
  exact I.call (g' := g') (t' := t') (d' := d') u hok hg hch
end

/-! ### the judgements -/
/-- an exception: its class, its own dict's address (where it has one), the abstract heap behind it -/
noncomputable abbrev XK := Value → Option Addr → Hp → Prop
noncomputable abbrev St := List (Option V)
noncomputable abbrev VK := V → Hp → Prop
/-- an expression's reading; a test's; an argument list's -/
noncomputable abbrev TE := St → Hp → VK → Prop
noncomputable abbrev TT := St → Hp → (Bool → Hp → Prop) → Prop
noncomputable abbrev TA := St → Hp → (List V → Hp → Prop) → Prop
/-- what is wanted behind a statement -/
structure Ends where
  nx : St → Hp → Prop
  rt : VK
  bk : St → Hp → Prop := fun _ _ => False
  ct : St → Hp → Prop := fun _ _ => False
noncomputable abbrev TS := Ends → St → Hp → Prop

noncomputable def EP (X : Cx) (pins : List (Addr × Obj)) (σ : St) (Q : VK) (u : Value) (s' : Shared) : Prop := ∃ v H', Inv X pins σ H' s' ∧ RelV v u ∧ Q v H'
noncomputable def TP (X : Cx) (pins : List (Addr × Obj)) (σ : St) (Q : Bool → Hp → Prop) (b : Bool) (s' : Shared) : Prop := ∃ H', Inv X pins σ H' s' ∧ Q b H'
noncomputable def AP (X : Cx) (pins : List (Addr × Obj)) (σ : St) (Q : List V → Hp → Prop) (us : List Value) (s' : Shared) : Prop := ∃ vs H', Inv X pins σ H' s' ∧ Vals vs us ∧ Q vs H'
noncomputable def SP (X : Cx) (pins : List (Addr × Obj)) (D : Ends) (f : Flow) (s' : Shared) : Prop :=
  match f with
  | .next => ∃ σ' H', Inv X pins σ' H' s' ∧ D.nx σ' H'
  | .brk => ∃ σ' H', Inv X pins σ' H' s' ∧ D.bk σ' H'
  | .cont => ∃ σ' H', Inv X pins σ' H' s' ∧ D.ct σ' H'
  | .ret u => ∃ v σ' H', Inv X pins σ' H' s' ∧ RelV v u ∧ D.rt v H'

noncomputable def PE (X : Cx) (e : Expr) (t : TE) : Prop :=
  ∀ (pins : List (Addr × Obj)) (s : Shared) (σ : St) (H : Hp) (Q : VK), Inv X pins σ H s → t σ H Q → wpAny (model X.prog X.w) X.A (eval e X.env) (EP X pins σ Q) X.xe s
noncomputable def PT (X : Cx) (e : Expr) (t : TT) : Prop :=
  ∀ (pins : List (Addr × Obj)) (s : Shared) (σ : St) (H : Hp) (Q : Bool → Hp → Prop), Inv X pins σ H s → t σ H Q → wpAny (model X.prog X.w) X.A (isTrue e X.env (eval e X.env)) (TP X pins σ Q) X.xe s
/-- a test whatever its 'whole' is (and, or) -/
noncomputable def PW (X : Cx) (e : Expr) (t : TT) : Prop :=
  ∀ (whole : Sem Value) (pins : List (Addr × Obj)) (s : Shared) (σ : St) (H : Hp) (Q : Bool → Hp → Prop), Inv X pins σ H s → t σ H Q → wpAny (model X.prog X.w) X.A (isTrue e X.env whole) (TP X pins σ Q) X.xe s
theorem PW.pt {X : Cx} {e : Expr} {t : TT} (h : PW X e t) : PT X e t := h _
/-- an argument list (no star), from the left -/
noncomputable def PA (X : Cx) (es : List Expr) (t : TA) : Prop :=
  ∀ (pos : Pos) (pins : List (Addr × Obj)) (s : Shared) (σ : St) (H : Hp) (Q : List V → Hp → Prop), Inv X pins σ H s → t σ H Q → wpAny (model X.prog X.w) X.A (spliced (backTo pos (starEach es X.env))) (AP X pins σ Q) X.xe s
noncomputable def PS (X : Cx) (st : Stmt) (t : TS) : Prop :=
  ∀ (pins : List (Addr × Obj)) (s : Shared) (σ : St) (H : Hp) (D : Ends), Inv X pins σ H s → t D σ H → wpAny (model X.prog X.w) X.A (exec st X.env) (SP X pins D) X.xe s
noncomputable def PSs (X : Cx) (st : List Stmt) (t : TS) : Prop :=
  ∀ (pins : List (Addr × Obj)) (s : Shared) (σ : St) (H : Hp) (D : Ends), Inv X pins σ H s → t D σ H → wpAny (model X.prog X.w) X.A (execs st X.env) (SP X pins D) X.xe s
/-- weaken the end -/
theorem thn {α : Type} {t : Sem α} {Q Q' : α → Shared → Prop} {M : Model} {A : Around} {E : Value → Shared → Prop} {s : Shared} (h : wpAny M A t Q E s) (hQ : ∀ a s, Q a s → Q' a s) : wpAny M A t Q' E s := wpAny_mono h hQ fun _ _ x => x
end L2

namespace L2
open PySem PySem.Spec PyProof.Rows
section
variable {X : Cx}


/-! ### names and constants -/
noncomputable def tVar (i : Nat) : TE := fun σ H Q => ∃ v, σ[i]? = some (some v) ∧ Q v H
noncomputable def tC (v : V) : TE := fun _ H Q => Q v H
theorem pe_var {i : Nat} {x : Str} {pos : Pos} (hN : X.N[i]? = some x) (hv : Vis X.env.scope x) (hd : (x == ("__debug__" : Str)) = false := by decide) (hcd : (x == ("__classdict__" : Str)) = false := by decide) : PE X (.Name x pos) (tVar i) := by
  intro pins s σ H Q I h
  obtain ⟨v, e, h⟩ := h
  obtain ⟨m, hn, hl⟩ := I.loc
  obtain ⟨u, r, l⟩ := hl i x v hN e hv
  have fin : EP X pins σ Q u s := ⟨v, H, I, r, h⟩
  rcases l with ⟨hk, hm⟩ | ⟨hk, c, hc, hcell⟩
  · exact wpAny_Name (wpAny_loadName_local I.ok.kind hk hn hm fin) hd
  · rcases hk with hk | hk
    · exact wpAny_Name (wpAny_loadName_cell I.ok.kind hk hc hcell fin) hd
    · exact wpAny_Name (wpAny_loadName_free I.ok.kind hk hc hcell fin hcd) hd
theorem pe_int {i j pos} : PE X (.Constant (.int i) j pos) (tC (.int i)) := fun _ _ _ H _ I h => wpAny_Constant_int ⟨.int i, H, I.tok _, ⟨_, rfl⟩, h⟩
theorem pe_bl {b j pos} : PE X (.Constant (.bool b) j pos) (tC (.bl b)) := fun _ _ _ H _ I h => Constant_bool ⟨.bl b, H, I, rfl, h⟩
theorem pe_non {j pos} : PE X (.Constant .none j pos) (tC .non) := fun _ _ _ H _ I h => Constant_none ⟨.non, H, I, rfl, h⟩
theorem pe_str {x j pos} : PE X (.Constant (.str x) j pos) (tC (.str x)) := fun _ _ _ H _ I h => Calls.Constant_str ⟨.str x, H, I.tok _, ⟨_, rfl⟩, h⟩

/-- a global name of the def -/
noncomputable def Gl (X : Cx) (x : Str) : Prop := X.env.kindOf x = some .globalImplicit
theorem ld_glob {E : Value → Shared → Prop} {pins : List (Addr × Obj)} {s : Shared} {σ : St} {H : Hp} {x : Str} {u : Value} {pos : Pos} {Q : Value → Shared → Prop} (I : Inv X pins σ H s) (hg : Gl X x) (hm : X.mg x = some u) (h : Q u s)
    (hd : (x == ("__debug__" : Str)) = false := by decide) : wpAny (model X.prog X.w) X.A (eval (.Name x pos) X.env) Q E s :=
  Calls.Name_function_global I.ok.kind hg (Calls.loadGlobal_global (by rw [I.ok.glob]; exact I.mod.glob.keeps I.bk) hm h) hd
theorem ld_blt {E : Value → Shared → Prop} {pins : List (Addr × Obj)} {s : Shared} {σ : St} {H : Hp} {x : Str} {u : Value} {pos : Pos} {Q : Value → Shared → Prop} (I : Inv X pins σ H s) (hg : Gl X x) (hm : X.mg x = none) (hv : bootBuiltins x = some u) (h : Q u s)
    (hn : x ≠ "__name__" := by decide) (hd : (x == ("__debug__" : Str)) = false := by decide) : wpAny (model X.prog X.w) X.A (eval (.Name x pos) X.env) Q E s := by
  obtain ⟨mb, h1, h2⟩ := I.mod.blt
  exact Calls.Name_function_global I.ok.kind hg (Calls.loadGlobal_builtin (by rw [I.ok.glob]; exact I.mod.glob.keeps I.bk) hm (by rw [I.ok.blt]; exact h1.keeps I.bk) ((h2 x hn).trans hv) h) hd
/-- a module's constant, a class, a function, as a value -/
theorem pe_glob {x : Str} {v : V} {u : Value} {pos : Pos} (hg : Gl X x) (hm : X.mg x = some u) (r : RelV v u) (hd : (x == ("__debug__" : Str)) = false := by decide) : PE X (.Name x pos) (tC v) :=
  fun _ _ _ H _ I h => ld_glob I hg hm ⟨v, H, I, r, h⟩ hd
theorem pe_bltn {x : Str} {v : V} {u : Value} {pos : Pos} (hg : Gl X x) (hm : X.mg x = none) (hv : bootBuiltins x = some u) (r : RelV v u) (hn : x ≠ "__name__" := by decide) (hd : (x == ("__debug__" : Str)) = false := by decide) : PE X (.Name x pos) (tC v) :=
  fun _ _ _ H _ I h => ld_blt I hg hm hv ⟨v, H, I, r, h⟩ hn hd

/-! ### arithmetic -/
variable {a b : Expr} {ta tb : TE} {pos : Pos}

/-! ### comparisons -/
/-- a comparison as a value, as a test -/
noncomputable def tB (t : TE) : TT := fun σ H Q => t σ H fun x H1 => ∃ c, x = .bl c ∧ Q c H1
/-- an expression whose value is a bool, as a test -/
theorem pt_val {e : Expr} {t : TE} (h : PE X e t) (he : ∀ whole, isTrue e X.env whole = (do let v ← whole; standAt e.pos; holding [v] (truthy v)) := by intro _; rfl) : PT X e (tB t) := by
  intro pins s σ H Q I hw
  refine isTrue_plain (thn (h pins s σ H _ I hw) fun v s1 ⟨x, H1, I1, r1, q1⟩ => ?_) (he _)
  obtain ⟨d, rfl, q⟩ := q1
  cases r1
  exact wpAny_truthy_bool ⟨H1, I1, q⟩

/-! ### and, or, not -/
variable {tA tB' : TT} {rest : List Expr}
noncomputable def tAnd (t u : TT) : TT := fun σ H Q => t σ H fun c H1 => if c = true then u σ H1 Q else Q false H1
noncomputable def tOr (t u : TT) : TT := fun σ H Q => t σ H fun c H1 => if c = true then Q true H1 else u σ H1 Q
noncomputable def tNot (t : TT) : TT := fun σ H Q => t σ H fun c H1 => Q (!c) H1
theorem pw_and1 (ha : PT X a tA) : PW X (.BoolOp .And [a] pos) tA := by
  intro wh pins s σ H Q I h
  refine isTrue_and (thn (ha pins s σ H Q I h) fun c s1 e => ?_)
  cases c with
  | true => exact isTrue_and_nil e
  | false => exact e
theorem pw_or1 (ha : PT X a tA) : PW X (.BoolOp .Or [a] pos) tA := by
  intro wh pins s σ H Q I h
  refine isTrue_or (thn (ha pins s σ H Q I h) fun c s1 e => ?_)
  cases c with
  | false => exact isTrue_or_nil e
  | true => exact e
theorem pw_and (ha : PT X a tA) (hb : PW X (.BoolOp .And (b :: rest) pos) tB') : PW X (.BoolOp .And (a :: b :: rest) pos) (tAnd tA tB') := by
  intro wh pins s σ H Q I h
  refine isTrue_and (thn (ha pins s σ H _ I h) fun c s1 ⟨H1, I1, q1⟩ => ?_)
  cases c with
  | true => exact hb wh pins s1 σ H1 Q I1 q1
  | false => exact ⟨H1, I1, q1⟩
theorem pw_or (ha : PT X a tA) (hb : PW X (.BoolOp .Or (b :: rest) pos) tB') : PW X (.BoolOp .Or (a :: b :: rest) pos) (tOr tA tB') := by
  intro wh pins s σ H Q I h
  refine isTrue_or (thn (ha pins s σ H _ I h) fun c s1 ⟨H1, I1, q1⟩ => ?_)
  cases c with
  | true => exact ⟨H1, I1, q1⟩
  | false => exact hb wh pins s1 σ H1 Q I1 q1
theorem pt_not (ha : PT X a tA) : PT X (.UnaryOp .Not a pos) (tNot tA) := by
  intro pins s σ H Q I h
  exact isTrue_not (ha pins s σ H (fun c H1 => Q (!c) H1) I h)
/-- .. as values (bools) -/
noncomputable def tAndV (ta tb : TE) : TE := fun σ H Q => ta σ H fun x H1 => ∃ c, x = .bl c ∧ if c = true then tb σ H1 Q else Q (.bl false) H1
noncomputable def tOrV (ta tb : TE) : TE := fun σ H Q => ta σ H fun x H1 => ∃ c, x = .bl c ∧ if c = true then Q (.bl true) H1 else tb σ H1 Q
noncomputable def tNotV (ta : TE) : TE := fun σ H Q => ta σ H fun x H1 => ∃ c, x = .bl c ∧ Q (.bl (!c)) H1
theorem pe_one {op} {t : TE} (h : PE X a t) : PE X (.BoolOp op [a] pos) t := fun pins s σ H Q I hw => BoolOp_one (h pins s σ H Q I hw)
theorem pe_and (ha : PE X a ta) (hb : PE X (.BoolOp .And (b :: rest) pos) tb) : PE X (.BoolOp .And (a :: b :: rest) pos) (tAndV ta tb) := by
  intro pins s σ H Q I h
  refine BoolOp_and (thn (ha pins s σ H _ I h) fun v s1 ⟨x, H1, I1, r1, q1⟩ => ?_)
  obtain ⟨c, rfl, q1⟩ := q1
  cases r1
  refine wpAny_truthy_bool ?_
  cases c with
  | true => exact hb pins s1 σ H1 Q I1 q1
  | false => exact ⟨.bl false, H1, I1, rfl, q1⟩
theorem pe_not (ha : PE X a ta) : PE X (.UnaryOp .Not a pos) (tNotV ta) := by
  intro pins s σ H Q I h
  refine UnaryOp_ (thn (ha pins s σ H _ I h) fun v s1 ⟨x, H1, I1, r1, q1⟩ => ?_)
  obtain ⟨c, rfl, q1⟩ := q1
  cases r1
  exact not_of (wpAny_truthy_bool ⟨.bl (!c), H1, I1, rfl, q1⟩)
/-- a if t else b -/
noncomputable def tIf (t : TT) (ta tb : TE) : TE := fun σ H Q => t σ H fun c H1 => if c = true then ta σ H1 Q else tb σ H1 Q
end
end L2

namespace L2
open PySem PySem.Spec PyProof.Rows

/-! ### a list, a tuple that is read: tracked, frozen, or an object of the module -/
noncomputable def SqL (K : PySem.W.Frag) (H : Hp) (a : Addr) (xs : List V) : Prop :=
  Rd H a (.lst xs) ∨
    ∃ (o : Obj) (its : Array Value) (n : Nat), K.lookup a = some o ∧ o.cls = .type "list" ∧ o.dict = none ∧ o.data = .seq its n ∧ its.size ≤ sizeLine ∧ Vals xs its.toList
noncomputable def SqT (K : PySem.W.Frag) (H : Hp) (a : Addr) (xs : List V) : Prop :=
  Rd H a (.tup xs) ∨
    ∃ (o : Obj) (its : Array Value) (n : Nat), K.lookup a = some o ∧ o.cls = .type "tuple" ∧ o.data = .seq its n ∧ its.size ≤ sizeLine ∧ Vals xs its.toList
noncomputable def absV : Value → Option V
  | .none => some .non
  | .bool b => some (.bl b)
  | .int i _ => some (.int i)
  | .str x _ => some (.str x)
  | .bytes b _ => some (.byt b)
  | .float b _ => some (.flt b)
  | .ref a => some (.ref a)
  | .type n => some (.ty n)
  | _ => none
theorem RelV.abs {x : V} {u : Value} (r : RelV x u) : absV u = some x := by
  cases x with
  | non => cases r; rfl
  | bl _ => cases r; rfl
  | int _ => obtain ⟨t, rfl⟩ := r; rfl
  | str _ => obtain ⟨t, rfl⟩ := r; rfl
  | byt _ => obtain ⟨t, rfl⟩ := r; rfl
  | flt _ => obtain ⟨t, rfl⟩ := r; rfl
  | ref _ => cases r; rfl
  | ty _ => cases r; rfl
theorem RelV.inj {x y : V} {u : Value} (r : RelV x u) (q : RelV y u) : x = y := Option.some.inj (r.abs.symm.trans q.abs)
theorem Vals.inj : ∀ {xs ys : List V} {us : List Value}, Vals xs us → Vals ys us → xs = ys
  | _, _, _, .nil, .nil => rfl
  | _, _, _, .cons r t, .cons r' t' => by rw [r.inj r', Vals.inj t t']
section
variable {X : Cx} {pins : List (Addr × Obj)} {σ : St} {H : Hp} {s : Shared} {a : Addr} {xs ys : List V}
theorem SqL.of {K : PySem.W.Frag} (h : H a = some (.lst xs)) : SqL K H a xs := .inl (.inl h)
theorem SqT.of {K : PySem.W.Frag} (h : H a = some (.tup xs)) : SqT K H a xs := .inl (.inl h)
theorem Inv.list (I : Inv X pins σ H s) (h : SqL X.K H a xs) : ∃ its : List Value, Vals xs its ∧ PlainL s.heap a its.toArray ∧ xs.length ≤ sizeLine := by
  rcases h with h | ⟨o, its, n, hk, hc, hd, hs, hz, r⟩
  · obtain ⟨z, its, n, r, e⟩ := h.ok I.hok
    exact ⟨its, r, ⟨_, n, e, rfl, rfl, rfl⟩, z⟩
  · refine ⟨its.toList, r, ⟨o, n, I.kIn a o hk, hc, hd, by simpa using hs⟩, ?_⟩
    have e := r.length
    simp only [Array.length_toList] at e
    omega
theorem Inv.tuple (I : Inv X pins σ H s) (h : SqT X.K H a xs) : ∃ its : List Value, Vals xs its ∧ IsTup s.heap a its.toArray ∧ xs.length ≤ sizeLine := by
  rcases h with h | ⟨o, its, n, hk, hc, hs, hz, r⟩
  · obtain ⟨z, its, r, p⟩ := h.ok I.hok
    exact ⟨its, r, p.1, z⟩
  · refine ⟨its.toList, r, ⟨o, I.kIn a o hk, hc, n, by simpa using hs⟩, ?_⟩
    have e := r.length
    simp only [Array.length_toList] at e
    omega
theorem Inv.list_inj (I : Inv X pins σ H s) (h : SqL X.K H a xs) (h' : SqL X.K H a ys) : xs = ys := by
  obtain ⟨its, r, ⟨o, n, e, _, _, d⟩, _⟩ := I.list h
  obtain ⟨its', r', ⟨o', n', e', _, _, d'⟩, _⟩ := I.list h'
  rw [e] at e'; cases e'
  rw [d] at d'
  injection d' with d1 _
  have : its = its' := by simpa using congrArg Array.toList d1
  subst this
  exact r.inj r'
theorem Inv.tuple_inj (I : Inv X pins σ H s) (h : SqT X.K H a xs) (h' : SqT X.K H a ys) : xs = ys := by
  obtain ⟨its, r, ⟨o, e, _, n, d⟩, _⟩ := I.tuple h
  obtain ⟨its', r', ⟨o', e', _, n', d'⟩, _⟩ := I.tuple h'
  rw [e] at e'; cases e'
  rw [d] at d'
  injection d' with d1 _
  have : its = its' := by simpa using congrArg Array.toList d1
  subst this
  exact r.inj r'
end

/-! ### another wish about exceptions -/
noncomputable abbrev Cx.wish (X : Cx) (E : Value → Shared → Prop) : Cx := { X with xe := E }
/-- no exception leaves -/
noncomputable abbrev Cx.nox (X : Cx) : Cx := X.wish fun _ _ => False
theorem Cx.Ok.wish {X : Cx} (ok : X.Ok) (E : Value → Shared → Prop) : (X.wish E).Ok :=
  ⟨ok.mod, ok.kind, ok.glob, ok.blt, ok.above, ok.inj, ok.has, ok.cab, ok.hd, ok.frames, ok.stk, ok.exf, ok.bs, ok.bsz, ok.noex, ok.exfs, ok.funs, ok.frf⟩
theorem Cx.Ok.unwish {X : Cx} {E : Value → Shared → Prop} (ok : (X.wish E).Ok) : X.Ok :=
  ⟨ok.mod, ok.kind, ok.glob, ok.blt, ok.above, ok.inj, ok.has, ok.cab, ok.hd, ok.frames, ok.stk, ok.exf, ok.bs, ok.bsz, ok.noex, ok.exfs, ok.funs, ok.frf⟩
section
variable {X : Cx} {pins : List (Addr × Obj)} {σ : St} {H : Hp} {s : Shared} {E : Value → Shared → Prop}
theorem Inv.wish (I : Inv X pins σ H s) (E : Value → Shared → Prop) : Inv (X.wish E) pins σ H s := ⟨I.ok.wish E, I.os, I.bare, I.base, I.loc, I.cell, I.free, I.freeC, I.pin, I.hok, I.len⟩
theorem Inv.unwish (I : Inv (X.wish E) pins σ H s) : Inv X pins σ H s := ⟨I.ok.unwish, I.os, I.bare, I.base, I.loc, I.cell, I.free, I.freeC, I.pin, I.hok, I.len⟩
theorem SP.unwish {D : Ends} {f : Flow} {s' : Shared} (h : SP (X.wish E) pins D f s') : SP X pins D f s' := by
  cases f with
  | next => obtain ⟨σ', H', I, q⟩ := h; exact ⟨σ', H', I.unwish, q⟩
  | brk => obtain ⟨σ', H', I, q⟩ := h; exact ⟨σ', H', I.unwish, q⟩
  | cont => obtain ⟨σ', H', I, q⟩ := h; exact ⟨σ', H', I.unwish, q⟩
  | ret u => obtain ⟨v, σ', H', I, r, q⟩ := h; exact ⟨v, σ', H', I.unwish, r, q⟩
theorem PE.nox {e : Expr} {t : TE} (h : PE X.nox e t) : PE X e t := fun pins s σ H Q I hw =>
  wpAny_mono (h pins s σ H Q (I.wish _) hw) (fun _ _ ⟨v, H', I', r, q⟩ => ⟨v, H', I'.unwish, r, q⟩) fun _ _ z => False.elim z
theorem PT.nox {e : Expr} {t : TT} (h : PT X.nox e t) : PT X e t := fun pins s σ H Q I hw =>
  wpAny_mono (h pins s σ H Q (I.wish _) hw) (fun _ _ ⟨H', I', q⟩ => ⟨H', I'.unwish, q⟩) fun _ _ z => False.elim z
theorem PSs.nox {st : List Stmt} {t : TS} (h : PSs X.nox st t) : PSs X st t := fun pins s σ H D I hw =>
  wpAny_mono (h pins s σ H D (I.wish _) hw) (fun _ _ q => q.unwish) fun _ _ z => False.elim z
end

/-! ### blocks and small statements -/
section
variable {X : Cx} {st : Stmt} {rest : List Stmt} {t u : TS} {e : Expr} {te : TE} {pos : Pos}
noncomputable def tNext : TS := fun D σ H => D.nx σ H
noncomputable def tSeq (t u : TS) : TS := fun D σ H => t { D with nx := u D } σ H
theorem pss_nil : PSs X [] tNext := fun _ _ σ H _ I h => wpAny_execs_nil ⟨σ, H, I, h⟩
theorem pss_cons (h1 : PS X st t) (h2 : PSs X rest u) : PSs X (st :: rest) (tSeq t u) := by
  intro pins s σ H D I h
  refine wpAny_execs_cons (thn (h1 pins s σ H { D with nx := u D } I h) fun f s1 q => ?_)
  cases f with
  | next =>
    obtain ⟨σ', H', I', q⟩ := q
    exact h2 pins s1 σ' H' D I' q
  | ret v => exact q
  | brk => exact q
  | cont => exact q
theorem pss_one (h1 : PS X st t) : PSs X [st] t := by
  intro pins s σ H D I h
  refine wpAny_execs_cons (thn (h1 pins s σ H D I h) fun f s1 q => ?_)
  cases f with
  | next => exact wpAny_execs_nil q
  | ret v => exact q
  | brk => exact q
  | cont => exact q
/-- in a def's body nothing is shown -/
theorem Inv.quiet {pins : List (Addr × Obj)} {σ : St} {H : Hp} {s : Shared} (I : Inv X pins σ H s) : interactive X.env = false := by simp [interactive, I.ok.kind]
/-- an expression whose value is dropped -/
noncomputable def tDrop (te : TE) : TS := fun D σ H => te σ H fun _ H1 => D.nx σ H1
theorem ps_expr (he : PE X e te) (hs : swapsWith e none pos.line X.env = pure false := by rfl) : PS X (.Expr e pos) (tDrop te) := by
  intro pins s σ H D I h
  exact wpAny_Expr_any (thn (he pins s σ H _ I h) fun v s1 ⟨x, H1, I1, r1, q1⟩ => ⟨σ, H1, I1, q1⟩) I.quiet hs
noncomputable def tRet (te : TE) : TS := fun D σ H => te σ H D.rt
theorem ps_ret (he : PE X e te) : PS X (.Return (some e) pos) (tRet te) := by
  intro pins s σ H D I h
  exact wpAny_Return_some (thn (he pins s σ H _ I h) fun v s1 ⟨x, H1, I1, r1, q1⟩ => ⟨x, σ, H1, I1, r1, q1⟩)
noncomputable def tIfS (c : TT) (t u : TS) : TS := fun D σ H => c σ H fun b H1 => if b = true then t D σ H1 else u D σ H1
theorem ps_if {c : Expr} {a b : List Stmt} {tc : TT} (hc : PT X c tc) (ha : PSs X a t) (hb : PSs X b u) : PS X (.If c a b pos) (tIfS tc t u) := by
  intro pins s σ H D I h
  refine wpAny_If (thn (hc pins s σ H _ I h) fun d s1 ⟨H1, I1, q1⟩ => ?_)
  cases d with
  | true => exact ha pins s1 σ H1 D I1 q1
  | false => exact hb pins s1 σ H1 D I1 q1
/-- code that the proof never comes to -/
noncomputable def tNever : TS := fun _ _ _ => False
theorem ps_never : PS X st tNever := fun _ _ _ _ _ _ h => h.elim
end

/-! ### targets -/
noncomputable abbrev TG := V → St → Hp → (St → Hp → Prop) → Prop
noncomputable abbrev TGs := List V → St → Hp → (St → Hp → Prop) → Prop
noncomputable def PG (X : Cx) (target : Expr) (t : TG) : Prop :=
  ∀ (pins : List (Addr × Obj)) (s : Shared) (σ : St) (H : Hp) (v : V) (u : Value) (Q : St → Hp → Prop), Inv X pins σ H s → RelV v u → t v σ H Q →
    wpAny (model X.prog X.w) X.A (assign target X.env u) (fun _ s' => ∃ σ' H', Inv X pins σ' H' s' ∧ Q σ' H') X.xe s
/-- several targets, one after another -/
noncomputable def PGs (X : Cx) (ts : List Expr) (t : TGs) : Prop :=
  ∀ (pins : List (Addr × Obj)) (s : Shared) (σ : St) (H : Hp) (vs : List V) (us : List Value) (Q : St → Hp → Prop), Inv X pins σ H s → Vals vs us → t vs σ H Q →
    wpAny (model X.prog X.w) X.A (assignInOrder ((assignEach ts X.env).map (·.2)) us) (fun _ s' => ∃ σ' H', Inv X pins σ' H' s' ∧ Q σ' H') X.xe s
/-- o[i] = v, by values -/
noncomputable abbrev TSet := V → V → V → Hp → (Hp → Prop) → Prop
section
variable {X : Cx} {pos : Pos}
noncomputable def gName (i : Nat) : TG := fun v σ H Q => Q (σ.set i (some v)) H
theorem pg_name {i : Nat} {x : Str} (hN : X.N.Nodup) (hi : X.N[i]? = some x) (hx : Loc X.env.scope x) (hf : X.fn x = true ∨ X.env.scope.names.lookup x = some .local := by first | exact .inl rfl | exact .inr rfl | assumption) : PG X (.Name x pos) (gName i) := by
  intro pins s σ H v u Q I r h
  exact wpAny_assign_Name (store_ok I hN hi hx r (fun s' I' => ⟨_, H, I', h⟩) hf)
noncomputable def gNil : TGs := fun vs σ H Q => vs = [] ∧ Q σ H
noncomputable def gCons (t : TG) (u : TGs) : TGs := fun vs σ H Q => ∃ v r, vs = v :: r ∧ t v σ H fun σ' H' => u r σ' H' Q
theorem pgs_nil : PGs X [] gNil := by
  intro pins s σ H vs us Q I r h
  obtain ⟨e, h⟩ := h
  subst e
  cases r
  exact assignInOrder_nil ⟨σ, H, I, h⟩
theorem pgs_cons {e : Expr} {es : List Expr} {t : TG} {u : TGs} (h1 : PG X e t) (h2 : PGs X es u)
    (hs : (assignEach (e :: es) X.env).map (·.2) = assign e X.env :: (assignEach es X.env).map (·.2) := by rfl) : PGs X (e :: es) (gCons t u) := by
  intro pins s σ H vs us Q I r h
  obtain ⟨v, vr, e1, h⟩ := h
  subst e1
  cases r with
  | cons r rr =>
    rw [hs]
    refine assignInOrder_cons (thn (h1 pins s σ H _ _ _ I r h) fun _ s1 ⟨σ1, H1, I1, q1⟩ => ?_)
    exact h2 pins s1 σ1 H1 _ _ Q I1 rr q1
/-- (a, b, ..) = a tuple of that length -/
noncomputable def gTup (K : PySem.W.Frag) (n : Nat) (t : TGs) : TG := fun v σ H Q => ∃ a xs, v = .ref a ∧ SqT K H a xs ∧ xs.length = n ∧ t xs σ H Q
theorem pg_tup {es : List Expr} {k : Nat} {t : TGs} {n : Nat} (hc : X.calm = true) (h : PGs X es t)
    (hn : (assignEach es X.env).length = n := by rfl) (hst : (assignEach es X.env).findIdx? (·.1) = none := by rfl) : PG X (.Tuple es k pos) (gTup X.K n t) := by
  intro pins s σ H v u Q I r hw
  obtain ⟨a, xs, e1, hq, hl, hw⟩ := hw
  subst e1
  cases r
  obtain ⟨its, rv, ht, hz⟩ := I.tuple hq
  refine assign_Tuple_tuple (I.ok.hd hc) ht (by simp [hn, ← hl, rv.length]) hst fun h' hx => ?_
  have I1 : Inv X pins σ H { s with heap := h' } := I.kept (t' := s.toks) fun b o e => hx b o (Nat.ne_of_lt (Heap.lt_size e)) e
  exact h pins _ σ H xs _ Q I1 (by simpa using rv) hw
/-- o[i] = .. -/
noncomputable def gSub (to ti : TE) (t : TSet) : TG := fun v σ H Q => to σ H fun o H1 => ti σ H1 fun i H2 => t o i v H2 fun H3 => Q σ H3
/-- target = value -/
noncomputable def tAsg (te : TE) (g : TG) : TS := fun D σ H => te σ H fun x H1 => g x σ H1 D.nx
theorem ps_asg {tg e : Expr} {te : TE} {g : TG} (he : PE X e te) (hg : PG X tg g) (hs : swapsWithSole [tg] e pos.line X.env = pure false := by rfl) (hw : swappedStores [tg] e X.env = pure none := by rfl)
    (h1 : (assignEach [tg] X.env).map (·.2) = [assign tg X.env] := by rfl) : PS X (.Assign [tg] e pos) (tAsg te g) := by
  intro pins s σ H D I h
  refine wpAny_Assign_stores (thn (he pins s σ H _ I h) fun v s1 ⟨x, H1, I1, r1, q1⟩ => ?_) hs hw
  rw [h1]
  exact thn (hg pins s1 σ H1 x v _ I1 r1 q1) fun _ s2 q => q
/-- name = value -/
theorem ps_set {i : Nat} {x : Str} {e : Expr} {te : TE} {pos' : Pos} (hN : X.N.Nodup) (hi : X.N[i]? = some x) (hx : Loc X.env.scope x) (he : PE X e te) (hs : swapsWith e (some (.Name x pos')) pos.line X.env = pure false := by rfl) (hf : X.fn x = true ∨ X.env.scope.names.lookup x = some .local := by first | exact .inl rfl | exact .inr rfl | assumption) :
    PS X (.Assign [.Name x pos'] e pos) (tAsg te (gName i)) := by
  intro pins s σ H D I h
  refine wpAny_Assign_Name (thn (he pins s σ H _ I h) fun v s1 ⟨y, H1, I1, r1, q1⟩ => ?_) hs
  exact store_ok I1 hN hi hx r1 (fun s2 I2 => ⟨_, H1, I2, q1⟩) hf
end

/-! ### while -/
section
variable {X : Cx} {pos : Pos}
/-- the invariant W with its measure -/
noncomputable def tWhile (c : TT) (tb : TS) : TS := fun D σ H => ∃ W : Nat → St → Hp → Prop, (∃ m, W m σ H) ∧ ∀ m σ H, W m σ H →
  c σ H fun b H1 => if b = true then ∃ N : St → Hp → Prop, (∀ σ' H', N σ' H' → ∃ m', m' < m ∧ W m' σ' H') ∧ tb { D with nx := N, ct := N, bk := D.nx } σ H1 else D.nx σ H1
end

/-! ### what a loop or a comprehension walks -/
/-- at turn i: it yields x (the heap may grow), or it stops -/
structure It where
  go : Nat → Hp → Prop
  yld : Nat → Hp → V → Hp → Prop
  stop : Nat → Hp → Prop
/-- the iterator's own objects may turn: they are not the frame's, not pinned, younger than the entry (or a comprehension's own) -/
noncomputable def FpOk (X : Cx) (pins : List (Addr × Obj)) (H : Hp) (b : Addr) : Prop :=
  H b = none ∧ b ≠ X.env.locals ∧ b ∉ X.fs ∧ (b ∈ X.ex ∨ X.s₀.heap.objs.size ≤ b) ∧ (∀ x c, X.env.cells.lookup x = some c → c ≠ b) ∧ ∀ p ∈ X.pn ++ pins, p.1 ≠ b
theorem Inv.fpOk {X : Cx} {pins : List (Addr × Obj)} {σ : St} {H H' : Hp} {s : Shared} {b : Addr} (I : Inv X pins σ H s) (hb : s.heap.objs.size ≤ b) (hn : H' b = none) : FpOk X pins H' b := by
  refine ⟨hn, Nat.ne_of_gt (Nat.lt_of_lt_of_le I.lt hb), I.nofs hb, .inr (Nat.le_trans I.sz hb), fun x c e z => ?_, fun p hp z => ?_⟩
  · obtain ⟨v, q⟩ := I.cell x c e
    exact absurd (Nat.lt_of_lt_of_le q.lt (by rw [z]; exact hb)) (Nat.lt_irrefl _)
  · exact absurd (Nat.lt_of_lt_of_le (Heap.lt_size (I.pin p hp).1) (by rw [z]; exact hb)) (Nat.lt_irrefl _)
structure Turn (P : Program) (w : World) (K : PySem.W.Frag) (tg : Expr) (J : It) (fp : List Addr) (it : Addr) (tn : Nat → Heap → Prop) : Prop where
  mem : it ∈ fp
  obj : ∀ i h, tn i h → ∀ b ∈ fp, ∃ o, h.get? b = some o ∧ ∀ v, o.data ≠ .cell v
  keep : ∀ i h h', tn i h → (∀ b ∈ fp, ∀ o, h.get? b = some o → h'.get? b = some o) → tn i h'
  item : ∀ (X : Cx), X.prog = P → X.w = w → X.K = K → X.calm = true → ∀ (i : Nat) (pins : List (Addr × Obj)) (s : Shared) (σ : St) (H : Hp) (E : Value → Shared → Prop), Inv X pins σ H s → (∀ b ∈ fp, FpOk X pins H b) → tn i s.heap → J.go i H →
    wpAny (model P w) X.A (pyNext (.ref it)) (fun r s1 => ∃ u, r = some u ∧
      wpAny (model P w) X.A (letOwnedTupleGo tg (.ref it) u) (fun _ s2 => ∃ x H', Inv X pins σ H' s2 ∧ RelV x u ∧ J.yld i H x H' ∧ tn (i + 1) s2.heap ∧ ∀ b ∈ fp, H' b = none) E s1) E s
  done : ∀ (X : Cx), X.prog = P → X.w = w → X.K = K → X.calm = true → ∀ (i : Nat) (pins : List (Addr × Obj)) (s : Shared) (σ : St) (H : Hp) (E : Value → Shared → Prop), Inv X pins σ H s → (∀ b ∈ fp, FpOk X pins H b) → tn i s.heap → J.stop i H →
    wpAny (model P w) X.A (pyNext (.ref it)) (fun r s1 => r = none ∧ Inv X pins σ H s1) E s
  self : ∀ (A : Around) (i : Nat) (s : Shared) (Q : Value → Shared → Prop) (E : Value → Shared → Prop), tn i s.heap → Q (.ref it) s → wpAny (model P w) A (pyIter (.ref it)) Q E s
noncomputable abbrev TI := St → Hp → (It → Hp → Prop) → Prop
/-- an iterator has come -/
noncomputable def PIE (X : Cx) (pins : List (Addr × Obj)) (σ : St) (tg : Expr) (R : It → Hp → Prop) (itv : Value) (s2 : Shared) : Prop :=
  ∃ (it : Addr) (fp : List Addr) (tn : Nat → Heap → Prop) (J : It) (H' : Hp), itv = .ref it ∧ Inv X pins σ H' s2 ∧ Turn X.prog X.w X.K tg J fp it tn ∧ tn 0 s2.heap ∧ (∀ b ∈ fp, FpOk X pins H' b) ∧ R J H'
noncomputable def PI (X : Cx) (tg iter : Expr) (wi : TI) : Prop :=
  ∀ (pins : List (Addr × Obj)) (s : Shared) (σ : St) (H : Hp) (R : It → Hp → Prop), Inv X pins σ H s → wi σ H R →
    wpAny (model X.prog X.w) X.A (eval iter X.env) (fun v s1 => wpAny (model X.prog X.w) X.A (pyIter v) (PIE X pins σ tg R) X.xe s1) X.xe s

/-- the step ahead of the store is nothing for an iterator that keeps no tuple -/
theorem go_of {M : Model} {A : Around} {E : Value → Shared → Prop} {s : Shared} {tg : Expr} {it : Addr} {u : Value} {o : Obj} {n : String} {vs : Array Value} {Q : Unit → Shared → Prop} (ho : s.heap.get? it = some o) (hc : o.cls = .type n) (hd : o.data = .fields vs)
    (hn : ["enumerate", "zip", "dict_itemiterator", "dict_reverseitemiterator", "odict_iterator", "itertools.zip_longest", "itertools.pairwise"].contains n = false) (hQ : Q () s) : wpAny M A (letOwnedTupleGo tg (.ref it) u) Q E s := by
  unfold letOwnedTupleGo
  cases tg <;> first
    | exact wpAny_pure hQ
    | (cases u <;> first
        | exact wpAny_pure hQ
        | (refine wpAny_bind (wpAny_load ho ?_)
           rw [hc, hd]
           show wpAny M A (if (["enumerate", "zip", "dict_itemiterator", "dict_reverseitemiterator", "odict_iterator", "itertools.zip_longest", "itertools.pairwise"].contains n && vs[0]? == some (rawInt _)) = true then _ else _) Q E s
           rw [if_neg (by intro h; rw [hn, Bool.false_and] at h; cases h)]
           exact wpAny_pure hQ))

/-- the list at a, as it stands at each turn (a loop may append to it) -/
noncomputable def Itl (K : PySem.W.Frag) (a : Addr) : It :=
  ⟨fun i H => ∃ xs x, SqL K H a xs ∧ xs[i]? = some x, fun i H x H' => H' = H ∧ ∀ xs, SqL K H a xs → xs[i]? = some x, fun i H => ∃ xs, SqL K H a xs ∧ xs.length ≤ i⟩
noncomputable def Itt (K : PySem.W.Frag) (a : Addr) : It :=
  ⟨fun i H => ∃ xs x, SqT K H a xs ∧ xs[i]? = some x, fun i H x H' => H' = H ∧ ∀ xs, SqT K H a xs → xs[i]? = some x, fun i H => ∃ xs, SqT K H a xs ∧ xs.length ≤ i⟩
/-- lo, lo + 1, .. (n of them) -/
noncomputable def Itr (lo : Int) (n : Nat) : It := ⟨fun i _ => i < n, fun i H x H' => H' = H ∧ x = .int (lo + i), fun i _ => n ≤ i⟩
theorem turn_list {P : Program} {w : World} {K : PySem.W.Frag} {tg : Expr} (a it : Addr) : Turn P w K tg (Itl K a) [it] it (fun i h => h.IsListIter it a i) where
  mem := by simp
  obj := fun i h st b hb => by
    have e : b = it := by simpa using hb
    subst e
    obtain ⟨o, e, c, d⟩ := st
    exact ⟨o, e, fun v z => by rw [d] at z; cases z⟩
  keep := fun i h h' st k => st.at fun o e => k it (by simp) o e
  item := by
    intro X hP hw hK hc i pins s σ H E I hf st hg
    subst hP hw hK
    obtain ⟨xs, x, hq, hx⟩ := hg
    obtain ⟨its, rv, p, hz⟩ := I.list hq
    obtain ⟨u, hu, ru⟩ := rv.get hx
    obtain ⟨f0, f1, f2, f3, f4, f5⟩ := hf it (by simp)
    refine wpAny_pyNext_list_item st p.isList (x := u) (by simpa using hu) fun h' st' sb => ?_
    have I1 : Inv X pins σ H { s with heap := h' } := I.turned (t' := s.toks) (fun b o hb e => (sb.2 b hb).trans e) f0 f1 f3 f4 f5
    obtain ⟨o, e, c, d⟩ := id st'
    exact ⟨u, rfl, go_of (s := { s with heap := h' }) e c d (by decide) ⟨x, H, I1, ru, ⟨rfl, fun ys hy => by rw [I.list_inj hy hq]; exact hx⟩, st', fun b hb => (hf b hb).1⟩⟩
  done := by
    intro X hP hw hK hc i pins s σ H E I hf st hg
    subst hP hw hK
    obtain ⟨xs, hq, hx⟩ := hg
    obtain ⟨its, rv, p, hz⟩ := I.list hq
    obtain ⟨f0, f1, f2, f3, f4, f5⟩ := hf it (by simp)
    have hl := rv.length
    exact wpAny_pyNext_list_end (I.ok.hd hc) st p.isList (by simp; omega) fun h' eb => ⟨rfl, I.turned (t' := s.toks) (fun b o hb e => eb b o hb e) f0 f1 f3 f4 f5⟩
  self := fun _ _ _ _ _ st h => wpAny_pyIter_listiter st h
theorem turn_tuple {P : Program} {w : World} {K : PySem.W.Frag} {tg : Expr} (a it : Addr) : Turn P w K tg (Itt K a) [it] it (fun i h => h.IsTupleIter it a i) where
  mem := by simp
  obj := fun i h st b hb => by
    have e : b = it := by simpa using hb
    subst e
    obtain ⟨o, e, c, d⟩ := st
    exact ⟨o, e, fun v z => by rw [d] at z; cases z⟩
  keep := fun i h h' st k => st.at fun o e => k it (by simp) o e
  item := by
    intro X hP hw hK hc i pins s σ H E I hf st hg
    subst hP hw hK
    obtain ⟨xs, x, hq, hx⟩ := hg
    obtain ⟨its, rv, p, hz⟩ := I.tuple hq
    obtain ⟨u, hu, ru⟩ := rv.get hx
    obtain ⟨f0, f1, f2, f3, f4, f5⟩ := hf it (by simp)
    refine wpAny_pyNext_tuple_item st (show s.heap.IsTuple a its.toArray from p) (x := u) (by simpa using hu) fun h' st' sb => ?_
    have I1 : Inv X pins σ H { s with heap := h' } := I.turned (t' := s.toks) (fun b o hb e => (sb.2 b hb).trans e) f0 f1 f3 f4 f5
    obtain ⟨o, e, c, d⟩ := id st'
    exact ⟨u, rfl, go_of (s := { s with heap := h' }) e c d (by decide) ⟨x, H, I1, ru, ⟨rfl, fun ys hy => by rw [I.tuple_inj hy hq]; exact hx⟩, st', fun b hb => (hf b hb).1⟩⟩
  done := by
    intro X hP hw hK hc i pins s σ H E I hf st hg
    subst hP hw hK
    obtain ⟨xs, hq, hx⟩ := hg
    obtain ⟨its, rv, p, hz⟩ := I.tuple hq
    obtain ⟨f0, f1, f2, f3, f4, f5⟩ := hf it (by simp)
    have hl := rv.length
    exact wpAny_pyNext_tuple_end (I.ok.hd hc) st (show s.heap.IsTuple a its.toArray from p) (by simp; omega) fun h' eb => ⟨rfl, I.turned (t' := s.toks) (fun b o hb e => eb b o hb e) f0 f1 f3 f4 f5⟩
  self := fun _ _ _ _ _ st h => wpAny_pyIter_tupleiter st h
theorem turn_range {P : Program} {w : World} {K : PySem.W.Frag} {tg : Expr} (it : Addr) (lo : Int) (n : Nat) : Turn P w K tg (Itr lo n) [it] it (fun i h => IsRangeIter h it (lo + (i : Nat) * 1) ((n : Int) - (i : Nat)) 1) where
  mem := by simp
  obj := fun i h st b hb => by
    have e : b = it := by simpa using hb
    subst e
    exact ⟨_, st, fun v z => by
      have z' : Data.fields _ = Data.cell v := z
      cases z'⟩
  keep := fun i h h' st k => k it (by simp) _ st
  item := by
    intro X hP hw hK hc i pins s σ H E I hf st hg
    subst hP hw hK
    obtain ⟨f0, f1, f2, f3, f4, f5⟩ := hf it (by simp)
    have W := Walks.range (prog := X.prog) (w := X.w) (I.ok.hd hc) it lo 1 n
    refine W.item i s _ _ hg st fun v h' tk hv st' kk => ?_
    obtain ⟨t, rfl⟩ := hv
    have I1 : Inv X pins σ H { s with heap := h', toks := tk } := I.turned (fun b o hb e => kk b o (by simpa using hb) e) f0 f1 f3 f4 f5
    refine ⟨_, rfl, go_of (s := { s with heap := h', toks := tk }) (n := "range_iterator") st' rfl rfl (by decide) ⟨.int (lo + i), H, I1, ⟨t, ?_⟩, ⟨rfl, rfl⟩, st', fun b hb => (hf b hb).1⟩⟩
    rw [Int.mul_one]
  done := by
    intro X hP hw hK hc i pins s σ H E I hf st hg
    subst hP hw hK
    obtain ⟨f0, f1, f2, f3, f4, f5⟩ := hf it (by simp)
    exact wpAny_pyNext_range_end (I.ok.hd hc) st (by have : n ≤ i := hg; omega) fun h' eb => ⟨rfl, I.turned (t' := s.toks) (fun b o hb e => eb b o hb e) f0 f1 f3 f4 f5⟩
  self := fun _ _ _ _ _ st h => wpAny_pyIter_rangeiter st h
end L2

namespace L2
open PySem PySem.Spec PyProof.Rows
section
variable {X : Cx} {tg : Expr}
noncomputable def iList (K : PySem.W.Frag) (tl : TE) : TI := fun σ H R => tl σ H fun x H1 => ∃ a, x = .ref a ∧ (∃ xs, SqL K H1 a xs) ∧ R (Itl K a) H1
noncomputable def iTup (K : PySem.W.Frag) (tl : TE) : TI := fun σ H R => tl σ H fun x H1 => ∃ a, x = .ref a ∧ (∃ xs, SqT K H1 a xs) ∧ R (Itt K a) H1
theorem pi_list {l : Expr} {tl : TE} (hl : PE X l tl) : PI X tg l (iList X.K tl) := by
  intro pins s σ H R I h
  refine thn (hl pins s σ H _ I h) fun v s1 ⟨x, H1, I1, r1, q1⟩ => ?_
  obtain ⟨a, e, ⟨xs, hq⟩, q⟩ := q1
  subst e
  cases r1
  obtain ⟨its, rv, p, hz⟩ := I1.list hq
  refine wpAny_pyIter_list p.isList ?_
  refine ⟨s1.heap.objs.size, [s1.heap.objs.size], _, _, H1, rfl, I1.kept (t' := s1.toks) fun b o e => Heap.get?_push_of_some _ e, turn_list a _, ⟨_, Heap.get?_push_size _ rfl, rfl, rfl⟩, fun b hb => ?_, q⟩
  have e : b = s1.heap.objs.size := by simpa using hb
  subst e
  exact I1.fpOk (Nat.le_refl _) (I1.hok.fresh (Nat.le_refl _))
theorem pi_tup {l : Expr} {tl : TE} (hl : PE X l tl) : PI X tg l (iTup X.K tl) := by
  intro pins s σ H R I h
  refine thn (hl pins s σ H _ I h) fun v s1 ⟨x, H1, I1, r1, q1⟩ => ?_
  obtain ⟨a, e, ⟨xs, hq⟩, q⟩ := q1
  subst e
  cases r1
  obtain ⟨its, rv, p, hz⟩ := I1.tuple hq
  refine wpAny_pyIter_tuple (show s1.heap.IsTuple a its.toArray from p) ?_
  refine ⟨s1.heap.objs.size, [s1.heap.objs.size], _, _, H1, rfl, I1.kept (t' := s1.toks) fun b o e => Heap.get?_push_of_some _ e, turn_tuple a _, ⟨_, Heap.get?_push_size _ rfl, rfl, rfl⟩, fun b hb => ?_, q⟩
  have e : b = s1.heap.objs.size := by simpa using hb
  subst e
  exact I1.fpOk (Nat.le_refl _) (I1.hok.fresh (Nat.le_refl _))
/-- a range object just made, walked -/
theorem range_it {pins : List (Addr × Obj)} {σ : St} {H : Hp} {s : Shared} {R : It → Hp → Prop} {E : Value → Shared → Prop} {lo hi : Int} {t u v : Tok} {tk : Nat} (I : Inv X pins σ H s) (h1 : -(2 ^ 62) ≤ lo) (h2 : lo < 2 ^ 62) (h3 : -(2 ^ 62) ≤ hi) (h4 : hi < 2 ^ 62)
    (q : R (Itr lo (hi - lo).toNat) H) : wpAny (model X.prog X.w) X.A (pyIter (.ref s.heap.objs.size)) (PIE X pins σ tg R) E { s with heap := s.heap.push { cls := .type "range", data := .fields #[.int lo t, .int hi u, .int 1 v] }, toks := tk } := by
  refine wpAny_pyIter_range (IsRange.new ..) (small_one h1 h2 h3 h4) ?_
  have I1 : Inv X pins σ H { s with heap := s.heap.push { cls := .type "range", data := .fields #[.int lo t, .int hi u, .int 1 v] }, toks := tk } := I.kept fun b o e => Heap.get?_push_of_some _ e
  refine ⟨(s.heap.push { cls := .type "range", data := .fields #[.int lo t, .int hi u, .int 1 v] }).objs.size, [(s.heap.push { cls := .type "range", data := .fields #[.int lo t, .int hi u, .int 1 v] }).objs.size], _, _, H, rfl,
    I1.kept (t' := tk) fun b o e => Heap.get?_push_of_some _ e, turn_range _ lo (hi - lo).toNat, ?_, fun b hb => ?_, q⟩
  · have e1 : lo + ((0 : Nat) : Int) * 1 = lo := by simp
    have e2 : (((hi - lo).toNat : Nat) : Int) - ((0 : Nat) : Int) = Builtin.Range.rangeSize lo hi 1 := by rw [rangeSize_one]; split <;> omega
    show IsRangeIter _ _ (lo + ((0 : Nat) : Int) * 1) ((((hi - lo).toNat : Nat) : Int) - ((0 : Nat) : Int)) 1
    rw [e1, e2]
    exact Heap.get?_push_size _ rfl
  · have e : b = (s.heap.push { cls := .type "range", data := .fields #[.int lo t, .int hi u, .int 1 v] }).objs.size := by simpa using hb
    subst e
    exact I1.fpOk (Nat.le_refl _) (I1.hok.fresh (Nat.le_refl _))
noncomputable def iRng1 (ta : TA) : TI := fun σ H R => ta σ H fun vs H1 => ∃ j : Int, vs = [.int j] ∧ -(2 ^ 62) ≤ j ∧ j < 2 ^ 62 ∧ R (Itr 0 j.toNat) H1
theorem pi_range1 {a : Expr} {ta : TA} {p pos : Pos} (hg : Gl X "range") (hm : X.mg "range" = none) (ha : PA X [a] ta) (hs : starEach [a] X.env = [(false, eval a X.env)] := by rfl) : PI X tg (.Call (.Name "range" p) [a] [] pos) (iRng1 ta) := by
  intro pins s σ H R I h
  refine Call_ (ld_blt I hg hm boot_range (PyProof.Rows.callWith_type1 (thn (ha pos pins s σ H _ I h) fun us s1 ⟨vs, H1, I1, r1, q1⟩ => ?_) hs rfl))
  obtain ⟨j, e, q1, q2, q⟩ := q1
  subst e
  cases r1 with
  | cons r rr =>
    cases rr
    obtain ⟨t, rfl⟩ := r
    exact call_range_1 (range_it I1 (by omega) (by omega) q1 q2 (by simpa using q))

/-! ### for -/
/-- W: the invariant by the turn and a measure; N: what the body is to reach -/
noncomputable def tFor (wi : TI) (g : TG) (tb : TS) : TS := fun D σ H => wi σ H fun J H1 => ∃ W : Nat → Nat → St → Hp → Prop, (∃ m, W 0 m σ H1) ∧ ∀ i m σ H, W i m σ H →
  (J.stop i H ∧ D.nx σ H) ∨ (J.go i H ∧ ∃ N : St → Hp → Prop, (∀ σ' H', N σ' H' → ∃ m', m' < m ∧ W (i + 1) m' σ' H') ∧ ∀ x H', J.yld i H x H' → g x σ H' fun σ2 H2 => tb { D with nx := N, ct := N, bk := D.nx } σ2 H2)
/-- the records at fp as they stand -/
noncomputable def pinsAt (fp : List Addr) (h : Heap) : List (Addr × Obj) := fp.filterMap fun b => (h.get? b).map fun o => (b, o)
theorem mem_pinsAt {fp : List Addr} {h : Heap} {b : Addr} {o : Obj} (hb : b ∈ fp) (e : h.get? b = some o) : (b, o) ∈ pinsAt fp h := List.mem_filterMap.mpr ⟨b, hb, by rw [e]; rfl⟩
theorem of_pinsAt {fp : List Addr} {h : Heap} {p : Addr × Obj} (hp : p ∈ pinsAt fp h) : p.1 ∈ fp ∧ h.get? p.1 = some p.2 := by
  obtain ⟨b, hb, e⟩ := List.mem_filterMap.mp hp
  cases q : h.get? b with
  | none => rw [q] at e; cases e
  | some o =>
    rw [q] at e
    have e' : (b, o) = p := Option.some.inj e
    subst e'
    exact ⟨hb, q⟩
theorem Inv.pinned {pins : List (Addr × Obj)} {σ : St} {H : Hp} {s : Shared} {fp : List Addr} (I : Inv X pins σ H s) (hf : ∀ b ∈ fp, FpOk X pins H b) (ho : ∀ b ∈ fp, ∃ o, s.heap.get? b = some o ∧ ∀ v, o.data ≠ .cell v) : Inv X (pins ++ pinsAt fp s.heap) σ H s :=
  I.pins_of fun p hp => (List.mem_append.mp hp).elim (fun z => I.pin p (List.mem_append_right _ z)) fun z => by
    obtain ⟨hb, e⟩ := of_pinsAt z
    obtain ⟨f0, f1, f2, _⟩ := hf p.1 hb
    obtain ⟨o, e', d⟩ := ho p.1 hb
    rw [e] at e'; cases e'
    exact ⟨e, f0, f1, f2, d⟩
theorem Inv.unpinned {pins pl : List (Addr × Obj)} {σ : St} {H : Hp} {s : Shared} (I : Inv X (pins ++ pl) σ H s) : Inv X pins σ H s := I.pins_of fun p hp => I.pin p (List.mem_append_right _ (List.mem_append_left _ hp))
theorem ps_for {iter : Expr} {body : List Stmt} {wi : TI} {g : TG} {tb : TS} {pos : Pos} (hp : PassesOwn (model X.prog X.w) X.A X.env X.xe) (hc : X.calm = true) (hi : PI X tg iter wi) (hg : PG X tg g) (hb : PSs X body tb)
    (hs : ∀ x, foldedSetIterable iter X.env x = pure x := by intro _; rfl) : PS X (.For tg iter body [] pos) (tFor wi g tb) := by
  intro pins s σ H D I h
  refine wpAny_For (thn (hi pins s σ H _ I h) fun v s1 h1 => thn h1 fun itv s2 h2 => ?_) hs
  obtain ⟨it, fp, tn, J, H2, e, I2, T, st2, f2, W, ⟨m0, w0⟩, turn⟩ := h2
  subst e
  -- what stays true of the iterator's objects through the loop
  have stat : ∀ {H' : Hp}, (∀ b ∈ fp, H' b = none) → ∀ b ∈ fp, FpOk X pins H' b := fun hn b hb => ⟨hn b hb, (f2 b hb).2⟩
  refine codeAny_forLoop_any (fun n s' => ∃ i σ' H', Inv X pins σ' H' s' ∧ tn i s'.heap ∧ (∀ b ∈ fp, H' b = none) ∧ W i n σ' H') ?_ m0 ⟨0, σ, H2, I2, st2, fun b hb => (f2 b hb).1, w0⟩
  rintro n s3 ⟨i, σ3, H3, I3, st3, fr3, w3⟩
  rcases turn i n σ3 H3 w3 with ⟨stop, qn⟩ | ⟨go, N, hN, step⟩
  · refine wpAny_passesOwn hp (thn (T.done X rfl rfl rfl hc i pins s3 σ3 H3 X.xe I3 (stat fr3) st3 stop) fun r s4 ⟨hr, I4⟩ => ?_)
    subst hr
    exact wpAny_execs_nil ⟨σ3, H3, I4, qn⟩
  · refine wpAny_passesOwn hp (thn (T.item X rfl rfl rfl hc i pins s3 σ3 H3 X.xe I3 (stat fr3) st3 go) fun r s4 ⟨u, hr, h4⟩ => ?_)
    subst hr
    refine wpAny_passesOwn hp (thn h4 fun _ s5 ⟨x, H5, I5, r5, y5, st5, fr5⟩ => ?_)
    have I5' := I5.pinned (stat fr5) (T.obj _ _ st5)
    refine wpAny_passesOwn hp (thn (hg _ s5 σ3 H5 x u _ I5' r5 (step x H5 y5)) fun _ s6 ⟨σ6, H6, I6, q6⟩ => ?_)
    refine wpAny_passesOwn hp (thn (hb _ s6 σ6 H6 _ I6 q6) fun f s7 q7 => ?_)
    have again : ∀ {σ7 : St} {H7 : Hp}, Inv X (pins ++ pinsAt fp s5.heap) σ7 H7 s7 → N σ7 H7 → ∃ m, m < n ∧ ∃ i σ' H', Inv X pins σ' H' s7 ∧ tn i s7.heap ∧ (∀ b ∈ fp, H' b = none) ∧ W i m σ' H' := fun {σ7 H7} I7 n7 => by
      obtain ⟨m', hm, w7⟩ := hN σ7 H7 n7
      refine ⟨m', hm, i + 1, σ7, H7, I7.unpinned, T.keep _ _ _ st5 fun b hb o e => (I7.pin (b, o) (List.mem_append_right _ (List.mem_append_right _ (mem_pinsAt hb e)))).1, fun b hb => ?_, w7⟩
      obtain ⟨o, e, d⟩ := T.obj _ _ st5 b hb
      exact (I7.pin (b, o) (List.mem_append_right _ (List.mem_append_right _ (mem_pinsAt hb e)))).2.1
    cases f with
    | next => obtain ⟨σ7, H7, I7, n7⟩ := q7; exact again I7 n7
    | cont => obtain ⟨σ7, H7, I7, n7⟩ := q7; exact again I7 n7
    | brk => obtain ⟨σ7, H7, I7, q7⟩ := q7; exact ⟨σ7, H7, I7.unpinned, q7⟩
    | ret v => obtain ⟨x7, σ7, H7, I7, r7, q7⟩ := q7; exact ⟨x7, σ7, H7, I7.unpinned, r7, q7⟩
end

/-! ### the forms one uses -/
end L2

namespace L2
open PySem PySem.Spec PyProof.Rows

noncomputable abbrev R2 := V → V → Hp → VK → Prop
/-- a two-place operation on values: f is binaryOp op, inplaceOp op or compareOp op -/
noncomputable def OpR (X : Cx) (f : Value → Value → Sem Value) (r : R2) : Prop :=
  ∀ (pins : List (Addr × Obj)) (s : Shared) (σ : St) (H : Hp) (x y : V) (v u : Value) (Q : VK), Inv X pins σ H s → RelV x v → RelV y u → r x y H Q →
    wpAny (model X.prog X.w) X.A (f v u) (EP X pins σ Q) X.xe s
/-- a one-place operation -/
noncomputable def UnR (X : Cx) (f : Value → Sem Value) (r : V → Hp → VK → Prop) : Prop :=
  ∀ (pins : List (Addr × Obj)) (s : Shared) (σ : St) (H : Hp) (x : V) (v : Value) (Q : VK), Inv X pins σ H s → RelV x v → r x H Q →
    wpAny (model X.prog X.w) X.A (f v) (EP X pins σ Q) X.xe s
/-- a call of a value that is known (a builtin, a type) with values -/
noncomputable def CallR (X : Cx) (f : Value) (r : List V → Hp → VK → Prop) : Prop :=
  ∀ (pins : List (Addr × Obj)) (s : Shared) (σ : St) (H : Hp) (xs : List V) (us : List Value) (Q : VK), Inv X pins σ H s → Vals xs us → r xs H Q →
    wpAny (model X.prog X.w) X.A (call f us) (EP X pins σ Q) X.xe s

noncomputable def tOp (r : R2) (ta tb : TE) : TE := fun σ H Q => ta σ H fun x H1 => tb σ H1 fun y H2 => r x y H2 Q
noncomputable def tUn (r : V → Hp → VK → Prop) (ta : TE) : TE := fun σ H Q => ta σ H fun x H1 => r x H1 Q
/-- ints in, under C, and a value out -/
noncomputable def rI (C : Int → Int → Prop) (g : Int → Int → V) : R2 := fun x y H Q => ∃ i j, x = .int i ∧ y = .int j ∧ C i j ∧ Q (g i j) H
noncomputable def rI0 (g : Int → Int → V) : R2 := fun x y H Q => ∃ i j, x = .int i ∧ y = .int j ∧ Q (g i j) H
noncomputable def rU (g : Int → V) : V → Hp → VK → Prop := fun x H Q => ∃ i, x = .int i ∧ Q (g i) H

section
variable {X : Cx} {a b c : Expr} {ta tb tc : TE} {pos : Pos}

theorem binT (ha : PE X a ta) (hb : PE X b tb) {pins : List (Addr × Obj)} {s : Shared} {σ : St} {H : Hp} {R : V → V → Hp → Prop} (I : Inv X pins σ H s)
    (h : ta σ H fun x H1 => tb σ H1 fun y H2 => R x y H2) {Q : Value → Shared → Prop} {f : Value → Value → Sem Value}
    (hf : ∀ v u s2 x y H2, Inv X pins σ H2 s2 → RelV x v → RelV y u → R x y H2 → wpAny (model X.prog X.w) X.A (f v u) Q X.xe s2) :
    wpAny (model X.prog X.w) X.A (eval a X.env) (fun v s₁ => wpAny (model X.prog X.w) X.A (eval b X.env) (fun u s₂ => wpAny (model X.prog X.w) X.A (f v u) Q X.xe s₂) X.xe s₁) X.xe s := by
  refine thn (ha pins s σ H _ I h) fun v s1 ⟨x, H1, I1, r1, q1⟩ => ?_
  refine thn (hb pins s1 σ H1 _ I1 q1) fun u s2 ⟨y, H2, I2, r2, q2⟩ => ?_
  exact hf v u s2 x y H2 I2 r1 r2 q2

theorem pe_op {op : Operator} {r : R2} (ho : OpR X (binaryOp op) r) (ha : PE X a ta) (hb : PE X b tb) : PE X (.BinOp a op b pos) (tOp r ta tb) := by
  intro pins s σ H Q I h
  exact wpAny_BinOp (binT ha hb I h fun v u s2 x y H2 I2 rx ry q => ho pins s2 σ H2 x y v u Q I2 rx ry q)
theorem pe_un {op : UnaryOp} {r : V → Hp → VK → Prop} (ho : UnR X (unaryOp op) r) (ha : PE X a ta) : PE X (.UnaryOp op a pos) (tUn r ta) := by
  intro pins s σ H Q I h
  exact UnaryOp_ (thn (ha pins s σ H _ I h) fun v s1 ⟨x, H1, I1, r1, q1⟩ => ho pins s1 σ H1 x v Q I1 r1 q1)

/-! ### ints -/
theorem opI {f : Value → Value → Sem Value} {C : Int → Int → Prop} {g : Int → Int → Int}
    (rule : ∀ (i j : Int) (t u : Tok) (s : Shared) (Q : Value → Shared → Prop) (E : Value → Shared → Prop), C i j → Q (.int (g i j) s.toks) { s with toks := s.toks + 1 } → wpAny (model X.prog X.w) X.A (f (.int i t) (.int j u)) Q E s) :
    OpR X f (rI C fun i j => .int (g i j)) := by
  intro pins s σ H x y v u Q I rx ry h
  obtain ⟨i, j, rfl, rfl, hc, q⟩ := h
  obtain ⟨t, rfl⟩ := rx
  obtain ⟨t', rfl⟩ := ry
  exact rule i j t t' s _ _ hc ⟨.int (g i j), H, I.tok _, ⟨_, rfl⟩, q⟩
theorem opI0 {f : Value → Value → Sem Value} {g : Int → Int → Int}
    (rule : ∀ (i j : Int) (t u : Tok) (s : Shared) (Q : Value → Shared → Prop) (E : Value → Shared → Prop), Q (.int (g i j) s.toks) { s with toks := s.toks + 1 } → wpAny (model X.prog X.w) X.A (f (.int i t) (.int j u)) Q E s) :
    OpR X f (rI0 fun i j => .int (g i j)) := by
  intro pins s σ H x y v u Q I rx ry h
  obtain ⟨i, j, rfl, rfl, q⟩ := h
  obtain ⟨t, rfl⟩ := rx
  obtain ⟨t', rfl⟩ := ry
  exact rule i j t t' s _ _ ⟨.int (g i j), H, I.tok _, ⟨_, rfl⟩, q⟩
theorem opB0 {f : Value → Value → Sem Value} {g : Int → Int → Bool}
    (rule : ∀ (i j : Int) (t u : Tok) (s : Shared) (Q : Value → Shared → Prop) (E : Value → Shared → Prop), Q (.bool (g i j)) s → wpAny (model X.prog X.w) X.A (f (.int i t) (.int j u)) Q E s) :
    OpR X f (rI0 fun i j => .bl (g i j)) := by
  intro pins s σ H x y v u Q I rx ry h
  obtain ⟨i, j, rfl, rfl, q⟩ := h
  obtain ⟨t, rfl⟩ := rx
  obtain ⟨t', rfl⟩ := ry
  exact rule i j t t' s _ _ ⟨.bl (g i j), H, I, rfl, q⟩

noncomputable def CMul (i j : Int) : Prop := (-(2 ^ 64) < i ∧ i < 2 ^ 64) ∨ (-(2 ^ 64) < j ∧ j < 2 ^ 64)
theorem CMul.ok {i j : Int} (h : CMul i j) : IntMulOk i j := by
  rcases h with ⟨h1, h2⟩ | ⟨h1, h2⟩
  · exact .of_left (intBits_le_64 h1 h2)
  · exact .of_right (intBits_le_64 h1 h2)

theorem op_add : OpR X (binaryOp .Add) (rI0 fun i j => .int (i + j)) := opI0 fun _ _ _ _ _ _ _ q => add_int q
theorem op_sub : OpR X (binaryOp .Sub) (rI0 fun i j => .int (i - j)) := opI0 fun _ _ _ _ _ _ _ q => sub_int q
theorem op_mul : OpR X (binaryOp .Mult) (rI CMul fun i j => .int (i * j)) := opI fun _ _ _ _ _ _ _ hc q => mul_int q hc.ok
/-- % by a positive divisor of any size -/
theorem op_mod : OpR X (binaryOp .Mod) (rI (fun _ j => 0 < j) fun i j => .int (i % j)) := opI fun i j _ _ _ _ _ hc q => by
  have h1 : (0 : Int) < j := hc
  exact mod_int' (by omega) (by rw [Int.fmod_eq_emod_of_nonneg i (by omega)]; exact q)


theorem unI {f : Value → Sem Value} {g : Int → Int}
    (rule : ∀ (i : Int) (t : Tok) (s : Shared) (Q : Value → Shared → Prop) (E : Value → Shared → Prop), Q (.int (g i) s.toks) { s with toks := s.toks + 1 } → wpAny (model X.prog X.w) X.A (f (.int i t)) Q E s) :
    UnR X f (rU fun i => .int (g i)) := by
  intro pins s σ H x v Q I rx h
  obtain ⟨i, rfl, q⟩ := h
  obtain ⟨t, rfl⟩ := rx
  exact rule i t s _ _ ⟨.int (g i), H, I.tok _, ⟨_, rfl⟩, q⟩
theorem un_neg : UnR X (unaryOp .USub) (rU fun i => .int (-i)) := unI fun _ _ _ _ _ q => neg_int q

/-! ### bools among ints: n += (a < b) -/
end

/-! ### comparisons -/


section
variable {X : Cx} {a b c : Expr} {ta tb tc : TE} {pos : Pos}
theorem fin_bl {pins : List (Addr × Obj)} {σ : St} {H : Hp} {s : Shared} {Q : VK} {k k' : Bool} (I : Inv X pins σ H s) (q : Q (.bl k) H) (e : k = k') : EP X pins σ Q (.bool k') s := by
  subst e
  exact ⟨.bl k, H, I, rfl, q⟩

theorem op_lt : OpR X (compareOp .Lt) (rI0 fun i j => .bl (decide (i < j))) := opB0 fun _ _ _ _ _ _ _ q => lt_int q
theorem op_le : OpR X (compareOp .LtE) (rI0 fun i j => .bl (decide (i ≤ j))) := opB0 fun _ _ _ _ _ _ _ q => le_int q
theorem op_gt : OpR X (compareOp .Gt) (rI0 fun i j => .bl (decide (j < i))) := opB0 fun _ _ _ _ _ _ _ q => gt_int q
theorem op_ge : OpR X (compareOp .GtE) (rI0 fun i j => .bl (decide (j ≤ i))) := opB0 fun _ _ _ _ _ _ _ q => ge_int q

theorem op_notN : OpR X (compareOp .IsNot) (fun x y H Q => y = .non ∧ Q (.bl (!decide (x = .non))) H) := by
  intro pins s σ H x y v u Q I rx ry h
  obtain ⟨rfl, q⟩ := h
  cases ry
  refine isnot_none_gen (fin_bl I q ?_)
  cases x <;> first
    | (cases rx; rfl)
    | (obtain ⟨t, rfl⟩ := rx; rfl)


/-- two rules for one operation: by cases -/
theorem OpR.or {f : Value → Value → Sem Value} {r r' : R2} (h : OpR X f r) (h' : OpR X f r') : OpR X f (fun x y H Q => r x y H Q ∨ r' x y H Q) := by
  intro pins s σ H x y v u Q I rx ry q
  rcases q with q | q
  · exact h pins s σ H x y v u Q I rx ry q
  · exact h' pins s σ H x y v u Q I rx ry q

theorem nomark (b : Expr) {op : CmpOp} (h : op ≠ .In := by decide) (h2 : op ≠ .NotIn := by decide) : behindInMarks op b = false := by
  have e1 : (op == CmpOp.In) = false := by cases op <;> first | rfl | exact absurd rfl h
  have e2 : (op == CmpOp.NotIn) = false := by cases op <;> first | rfl | exact absurd rfl h2
  cases b <;> simp [behindInMarks, e1, e2]
/-- a comparison as a value; hm: nomark b, or (for in, not in) by with_unfolding_all rfl -/
theorem pe_cmpR {op : CmpOp} {r : R2} (ho : OpR X (compareOp op) r) (ha : PE X a ta) (hb : PE X b tb) (hm : behindInMarks op b = false) : PE X (.Compare a [op] [b] pos) (tOp r ta tb) := by
  intro pins s σ H Q I h
  exact wpAny_Compare1 (binT ha hb I h fun v u s2 x y H2 I2 rx ry q => ho pins s2 σ H2 x y v u Q I2 rx ry q) hm
/-- a reading of a value as a test -/
noncomputable def tTest (t : TE) : TT := fun σ H Q => t σ H fun x H' => ∃ k, x = .bl k ∧ Q k H'
theorem pt_cmpR {op : CmpOp} {r : R2} (ho : OpR X (compareOp op) r) (ha : PE X a ta) (hb : PE X b tb) (hm : behindInMarks op b = false) : PT X (.Compare a [op] [b] pos) (tTest (tOp r ta tb)) := by
  intro pins s σ H Q I h
  refine wpAny_isTrue_Compare1 (thn (ha pins s σ H _ I h) fun v s1 ⟨x, H1, I1, r1, q1⟩ => thn (hb pins s1 σ H1 _ I1 q1) fun u s2 ⟨y, H2, I2, r2, q2⟩ =>
    thn (ho pins s2 σ H2 x y v u _ I2 r1 r2 q2) fun c s3 ⟨z, H3, I3, r3, k, e, q3⟩ => ?_) hm
  subst e
  cases r3
  exact wpAny_truthy_bool ⟨H3, I3, q3⟩
/-- a op1 b op2 c -/
noncomputable def tChain (r r' : R2) (ta tb tc : TE) : TE := fun σ H Q => ta σ H fun x H1 => tb σ H1 fun y H2 => r x y H2 fun z H3 => ∃ k, z = .bl k ∧
  (if k = true then tc σ H3 fun w' H4 => r' y w' H4 Q else Q (.bl false) H3)
theorem pe_chain {op op' : CmpOp} {r r' : R2} (ho : OpR X (compareOp op) r) (ho' : OpR X (compareOp op') r') (ha : PE X a ta) (hb : PE X b tb) (hc : PE X c tc)
    (hm : lastMarks [op, op'] [b, c] = false := by with_unfolding_all rfl) : PE X (.Compare a [op, op'] [b, c] pos) (tChain r r' ta tb tc) := by
  intro pins s σ H Q I h
  refine Compare_chain (thn (ha pins s σ H _ I h) fun v s1 ⟨x, H1, I1, r1, q1⟩ => chain_link (thn (hb pins s1 σ H1 _ I1 q1) fun u s2 ⟨y, H2, I2, r2, q2⟩ =>
    thn (ho pins s2 σ H2 x y v u _ I2 r1 r2 q2) fun d s3 ⟨z, H3, I3, r3, k, e, q3⟩ => ?_)) hm
  subst e
  cases r3
  refine wpAny_truthy_bool ?_
  cases k with
  | false => exact ite_ff ⟨.bl false, H3, I3, rfl, q3⟩
  | true => exact ite_tt (chain_last (thn (hc pins s3 σ H3 _ I3 q3) fun w' s4 ⟨z', H4, I4, r4, q4⟩ => ho' pins s4 σ H4 y z' u w' Q I4 r2 r4 q4))
theorem pt_chain {op op' : CmpOp} {r r' : R2} (ho : OpR X (compareOp op) r) (ho' : OpR X (compareOp op') r') (ha : PE X a ta) (hb : PE X b tb) (hc : PE X c tc)
    (hm : lastMarks [op, op'] [b, c] = false := by with_unfolding_all rfl) : PT X (.Compare a [op, op'] [b, c] pos) (tTest (tChain r r' ta tb tc)) := by
  intro pins s σ H Q I h
  refine isTrue_chain (thn (ha pins s σ H _ I h) fun v s1 ⟨x, H1, I1, r1, q1⟩ => test_link (thn (hb pins s1 σ H1 _ I1 q1) fun u s2 ⟨y, H2, I2, r2, q2⟩ =>
    thn (ho pins s2 σ H2 x y v u _ I2 r1 r2 q2) fun d s3 ⟨z, H3, I3, r3, k, e, q3⟩ => ?_)) hm
  subst e
  cases r3
  refine wpAny_truthy_bool ?_
  cases k with
  | false =>
    obtain ⟨k', e', q'⟩ := q3
    cases e'
    exact ite_ff ⟨H3, I3, q'⟩
  | true =>
    refine ite_tt (test_last (thn (hc pins s3 σ H3 _ I3 q3) fun w' s4 ⟨z', H4, I4, r4, q4⟩ => thn (ho' pins s4 σ H4 y z' u w' _ I4 r2 r4 q4) fun d' s5 ⟨z2, H5, I5, r5, k2, e2, q5⟩ => ?_))
    subst e2
    cases r5
    exact wpAny_truthy_bool ⟨H5, I5, q5⟩

/-! ### truth -/
theorem line63 : (sizeLine : Nat) < 2 ^ 63 := by rw [sizeLine_eq]; decide

/-! ### strs and bytes -/


/-! ### scalar builtins, by CallR -/
theorem vals1 {x : V} {us : List Value} (r : Vals [x] us) : ∃ u, us = [u] ∧ RelV x u := by
  cases r with
  | cons r1 r2 => cases r2; exact ⟨_, rfl, r1⟩
theorem call_int1 : CallR X (.type "int") (fun xs H Q => (∃ i, xs = [.int i] ∧ Q (.int i) H) ∨ ∃ k, xs = [.bl k] ∧ Q (.int (if k then 1 else 0)) H) := by
  intro pins s σ H xs us Q I r h
  rcases h with ⟨i, rfl, q⟩ | ⟨k, rfl, q⟩
  · obtain ⟨u, rfl, t, rfl⟩ := vals1 r
    exact call_int_int ⟨.int i, H, I, ⟨_, rfl⟩, q⟩
  · obtain ⟨u, rfl, r1⟩ := vals1 r
    cases r1
    exact call_int_bool ⟨.int (if k then 1 else 0), H, I.tok _, ⟨_, rfl⟩, q⟩
end
end L2

namespace L2
open PySem PySem.Spec PyProof.Rows

/-! ### an instance, its attributes a map -/
structure ObjM (h : Heap) (x dx C : Addr) (mA : Str → Option Value) : Prop where
  obj : h.get? x = some (PySem.W.instObj C dx)
  ns : h.Ns1 dx mA
  ne : dx ≠ x

theorem lookIn_ns {h : Heap} {dx : Addr} {mA : Str → Option Value} (n : h.Ns1 dx mA) : ∃ od, h.get? dx = some od ∧ ∀ name, PySem.W.lookIn name od = some (mA name) := by
  obtain ⟨o, es, ep, ho, hd, hk, _, hm⟩ := n
  refine ⟨o, ho, fun name => ?_⟩
  have e := hm name
  unfold nsFind findBy at e
  rw [← Array.find?_toList] at e
  unfold PySem.W.lookIn
  rw [hd]
  dsimp only
  split
  · rename_i y q
    rw [q] at e
    exact congrArg some e
  · rename_i q
    rw [q] at e
    have a : es.toList.any (·.refKey) = false := by
      rw [List.any_eq_false]
      intro y hy
      obtain ⟨z, t, hkey⟩ := hk y (Array.mem_toList_iff.mp hy)
      simp [DictEntry.refKey, hkey]
    have a' : ¬ es.toList.any (·.refKey) = true := by rw [a]; exact Bool.false_ne_true
    rw [if_neg a']
    exact congrArg some e

theorem ObjM.look {h : Heap} {x dx C : Addr} {mA : Str → Option Value} (I : ObjM h x dx C mA) : ∃ od, PySem.W.InstAt h x (PySem.W.instObj C dx) C (some od) ∧ ∀ name, PySem.W.lookIn name od = some (mA name) :=
  let ⟨od, ho, hl⟩ := lookIn_ns I.ns
  ⟨od, ⟨I.obj, rfl, rfl, ho⟩, hl⟩

section
variable {prog : Program} {w : World} {A : Around} {E : Value → Shared → Prop} {s : Shared} {K : PySem.W.Frag} {x dx C f : Addr} {mA : Str → Option Value} {name : Str} {v : Value}





end

/-! ### the attributes as a list of pairs -/

theorem RelO.none_of {o : Option Value} (r : RelO none o) : o = none := by
  cases o with
  | none => rfl
  | some u => exact (show False from r).elim

section
variable {P : Program} {w : World} {H H' : Hp} {h h' : Heap} {a C dx : Addr} {fs fs' : List (Str × V)}
theorem ins_get (hok : HOk P w H h) (e : H a = some (.ins C dx fs)) : ∃ mA, ObjM h a dx C mA ∧ (∀ f, RelO (fs.lookup f) (mA f)) ∧ PySem.Within mA (fs.map (·.1)) ∧ fs.length ≤ 1000 ∧ H dx = some (.own a) := by
  obtain ⟨d, z, ne, ob, mA, n, r, q⟩ := (show ObjOk P w H h a (.ins C dx fs) from hok a _ e)
  exact ⟨mA, ⟨ob, n, ne⟩, r, q, z, d⟩
end

/-! ### what of the text a class must have -/
structure Cls (K : PySem.W.Frag) (C : Addr) : Prop where
  pg : PySem.W.plainGet K C Str.empty = true
  hd : PySem.W.hasDictIn K C = true
  po : PySem.W.plainOver K C = true
  sa : PySem.W.findIn K (.ref C) "__setattr__" = some (some (.builtin "object.__setattr__"))
theorem Cls.get {K : PySem.W.Frag} {C : Addr} (c : Cls K C) (f : Str) : PySem.W.plainGet K C f = true := c.pg
/-- a constant of the class -/
structure Con (K : PySem.W.Frag) (C : Addr) (f : Str) (v : V) (u : Value) : Prop where
  at_ : PySem.W.findIn K (.ref C) f = some (some u)
  rel : RelV v u
  get : PySem.W.specialIn K u "__get__" = some none
  cp : PySem.W.copiedNames.contains f = false
/-- a method: a plain def of the class or of one above it -/
structure Meth (K : PySem.W.Frag) (C : Addr) (m : Str) (f : Addr) : Prop where
  at_ : PySem.W.findIn K (.ref C) m = some (some (.ref f))
  fn : PySem.W.isFn K (.ref f) = true
  kp : PySem.W.keepIn K (.ref f) = true

section
variable {X : Cx} {pins : List (Addr × Obj)} {σ : St} {H : Hp} {s : Shared} {a C dx : Addr} {fs : List (Str × V)} {f : Str} {v : V} {A : Around} {E : Value → Shared → Prop}






end

/-! ### readings and rules -/

section
variable {X : Cx} {o e value : Expr} {f : Str} {pos pos' tpos : Pos} {ta tv : TE}

end

/-! ### isinstance -/
section
variable {X : Cx} {pins : List (Addr × Obj)} {σ : St} {H : Hp} {s : Shared} {A : Around} {E : Value → Shared → Prop} {Q : Value → Shared → Prop} {c : Value} {b : Bool}
/-- the type of a value, as the fragment's deciders take it; for an instance its class -/
inductive TyOf (K : PySem.W.Frag) (H : Hp) : V → Value → Prop where
  | non : TyOf K H .non (.type "NoneType")
  | bl (x : Bool) : TyOf K H (.bl x) (.type "bool")
  | int (i : Int) : TyOf K H (.int i) (.type "int")
  | str (x : Str) : TyOf K H (.str x) (.type "str")
  | flt (x : UInt64) : TyOf K H (.flt x) (.type "float")
  | lst {a : Addr} {xs : List V} (e : H a = some (.lst xs)) : TyOf K H (.ref a) (.type "list")
  | frz {a : Addr} {o : Obj} {xs : List V} (e : H a = some (.frz o (.lst xs))) : TyOf K H (.ref a) (.type "list")
  | tup {a : Addr} {xs : List V} (e : H a = some (.tup xs)) : TyOf K H (.ref a) (.type "tuple")
  | dK {a : Addr} {kvs : List (Key × V)} (e : H a = some (.dK kvs)) : TyOf K H (.ref a) (.type "dict")
  | dT {a : Addr} {kvs : List (List Key × V)} (e : H a = some (.dT kvs)) : TyOf K H (.ref a) (.type "dict")
  | ins {a C dx : Addr} {fs : List (Str × V)} (e : H a = some (.ins C dx fs)) (cl : Cls K C) (ha : PySem.W.findIn K (.ref C) "__class__" = some (some (.builtin "object.__class__")))
      (hn : PySem.W.specialIn K (.builtin "object.__class__") "__get__" = some (some (.builtin "getset_descriptor.__get__"))) (htk : PySem.W.takesIn K (.builtin "object.__class__") = some true)
      (hm : PySem.W.mroIn K C (.type "object") = some true) : TyOf K H (.ref a) (.ref C)
/-- isinstance(x, c) for one class c, a built-in or an own one: kitOne's answer -/
theorem isinst_ok {x : V} {u t : Value} (I : Inv X pins σ H s) (rx : RelV x u) (ty : TyOf X.K H x t) (e : PySem.W.kitOne X.K t c = some b) (h : ∀ tk, Q (.bool b) { s with toks := tk }) :
    wpAny (model X.prog X.w) A (call (.builtin "isinstance") [u, c]) Q E s := by
  cases ty with
  | non => cases (show u = Value.none from rx); exact PySem.W.kia_one PySem.W.kitx_none I.kIn True.intro e (fun z => nomatch z) h
  | bl y => cases (show u = Value.bool y from rx); exact PySem.W.kia_one PySem.W.kitx_bool I.kIn True.intro e (fun z => nomatch z) h
  | int i => obtain ⟨t, q⟩ := (show ∃ t, u = Value.int i t from rx); cases q; exact PySem.W.kia_one PySem.W.kitx_int I.kIn True.intro e (fun z => nomatch z) h
  | str y => obtain ⟨t, q⟩ := (show ∃ t, u = Value.str y t from rx); cases q; exact PySem.W.kia_one PySem.W.kitx_str I.kIn True.intro e (fun z => nomatch z) h
  | flt y => obtain ⟨t, q⟩ := (show ∃ t, u = Value.float y t from rx); cases q; exact PySem.W.kia_one PySem.W.kitx_float I.kIn True.intro e (fun z => nomatch z) h
  | @lst a xs ea =>
    cases (show u = Value.ref a from rx)
    obtain ⟨_, _, n, _, h1⟩ := (show ObjOk X.prog X.w H s.heap a (.lst xs) from I.hok a _ ea)
    exact PySem.W.kia_one PySem.W.kitx_list I.kIn ⟨_, h1, rfl⟩ e (fun z => nomatch z) h
  | @frz a ob xs ea =>
    cases (show u = Value.ref a from rx)
    obtain ⟨_, _, _, n, _, h1⟩ := (show ObjOk X.prog X.w H s.heap a (.frz ob (.lst xs)) from I.hok a _ ea)
    exact PySem.W.kia_one PySem.W.kitx_list I.kIn ⟨_, h1, rfl⟩ e (fun z => nomatch z) h
  | @tup a xs ea =>
    cases (show u = Value.ref a from rx)
    obtain ⟨_, _, _, p⟩ := (show ObjOk X.prog X.w H s.heap a (.tup xs) from I.hok a _ ea)
    obtain ⟨o, h1, h2, _⟩ := p.1
    exact PySem.W.kia_one PySem.W.kitx_tuple I.kIn ⟨o, h1, h2⟩ e (fun z => nomatch z) h
  | @dK a kvs ea =>
    cases (show u = Value.ref a from rx)
    obtain ⟨_, _, vs, _, p⟩ := (show ObjOk X.prog X.w H s.heap a (.dK kvs) from I.hok a _ ea)
    obtain ⟨o, es, ep, h1, h2, _⟩ := p
    exact PySem.W.kia_one PySem.W.kitx_dict I.kIn ⟨o, h1, h2.1⟩ e (fun z => nomatch z) h
  | @dT a kvs ea =>
    cases (show u = Value.ref a from rx)
    obtain ⟨_, _, xs, _, o, es, ep, h1, h2, _⟩ := (show ObjOk X.prog X.w H s.heap a (.dT kvs) from I.hok a _ ea)
    exact PySem.W.kia_one PySem.W.kitx_dict I.kIn ⟨o, h1, h2.1⟩ e (fun z => nomatch z) h
  | @ins a C dx fs ea cl ha hn htk hm =>
    cases (show u = Value.ref a from rx)
    obtain ⟨mA, O, _⟩ := ins_get I.hok ea
    obtain ⟨od, J, _⟩ := O.look
    exact PySem.W.kia_one (PySem.W.kitx_own (cl.get _) cl.hd ha hn htk hm) I.kIn J e (fun z => nomatch z) h
end
end L2

namespace L2
open PySem PySem.Spec PyProof.Rows

/-! ### room -/
structure Room (k : Nat) (A : Around) : Prop where
  hd : A.handled = none
  dp : A.depth + 3 * k + 5 < recursionLimit
  un : A.units + 16 * k + 200 < cLine
theorem Room.mono {j k : Nat} {A : Around} (r : Room k A) (h : j ≤ k) : Room j A := ⟨r.hd, by have := r.dp; omega, by have := r.un; omega⟩
theorem Room.deeper {k : Nat} {A : Around} (r : Room (k + 1) A) (env : Env) : Room k (A.deeper env) :=
  ⟨r.hd, by have := r.dp; show A.depth + 1 + 3 * k + 5 < _; omega, by have := r.un; show A.units + 3 + 16 * k + 200 < _; omega⟩
theorem Room.in1 {k : Nat} {A : Around} (r : Room (k + 1) A) : Room k A.in1 :=
  ⟨r.hd, by have := r.dp; show A.depth + 3 * k + 5 < _; omega, by have := r.un; show A.units + 1 + 16 * k + 200 < _; omega⟩
theorem Room.depth {k : Nat} {A : Around} (r : Room k A) : A.depth < recursionLimit := by have := r.dp; omega
theorem Room.units {k : Nat} {A : Around} (r : Room k A) : A.units + 64 < cLine := by have := r.un; omega
theorem Room.units0 {k : Nat} {A : Around} (r : Room k A) : A.units < cLine := by have := r.un; omega

/-! ### argument lists and displays -/
noncomputable def tNil : TA := fun _ H Q => Q [] H
noncomputable def tCons (ta : TE) (tr : TA) : TA := fun σ H Q => ta σ H fun x H1 => tr σ H1 fun xs H2 => Q (x :: xs) H2
section
variable {X : Cx} {e : Expr} {es : List Expr} {te : TE} {t : TA} {pos : Pos}
theorem pa_nil : PA X [] tNil := fun _ _ _ _ H Q I h => Calls.spliced_nil ⟨[], H, I, .nil, h⟩
theorem pa_cons (ha : PE X e te) (hr : PA X es t) (hs : starEach (e :: es) X.env = (false, eval e X.env) :: starEach es X.env := by rfl) : PA X (e :: es) (tCons te t) := by
  intro pos pins s σ H Q I h
  rw [hs]
  show wpAny _ _ (spliced ((false, eval e X.env) :: backTo pos (starEach es X.env))) _ _ s
  refine Calls.spliced_cons (thn (ha pins s σ H _ I h) fun u s1 ⟨x, H1, I1, r1, q1⟩ => ?_)
  exact thn (hr pos pins s1 σ H1 _ I1 q1) fun us s2 ⟨xs, H2, I2, r2, q2⟩ => ⟨x :: xs, H2, I2, .cons r1 r2, q2⟩

/-- a tuple, a list of written items -/
noncomputable def tTup (t : TA) : TE := fun σ H Q => t σ H fun xs H1 => xs.length ≤ sizeLine ∧ ∀ p, H1 p = none → Q (.ref p) (upd H1 p (.tup xs))
noncomputable def tLst (t : TA) : TE := fun σ H Q => t σ H fun xs H1 => xs.length ≤ sizeLine ∧ ∀ p, H1 p = none → Q (.ref p) (upd H1 p (.lst xs))
theorem pe_tup {x1} (h : PA X es t) : PE X (.Tuple es x1 pos) (tTup t) := by
  intro pins s σ H Q I hq
  refine wpAny_Tuple_spliced (thn (h pos pins s σ H _ I hq) fun us s1 ⟨xs, H1, I1, r, z, q⟩ => ⟨by rw [← r.length]; exact z, ?_⟩)
  have hf : H1 s1.heap.objs.size = none := I1.hok.fresh (Nat.le_refl _)
  refine ⟨.ref s1.heap.objs.size, upd H1 s1.heap.objs.size (.tup xs), I1.laid (t' := s1.toks) (fun b u e => Heap.get?_push_of_some _ e) (Nat.le_refl _) ?_, rfl, q _ hf⟩
  exact ⟨z, us, r, ⟨_, Heap.get?_push_size _ rfl, rfl, _, rfl⟩, _, Heap.get?_push_size _ rfl, rfl⟩
theorem pe_lst (h : PA X es t) : PE X (.List es pos) (tLst t) := by
  intro pins s σ H Q I hq
  refine wpAny_List_spliced (thn (h pos pins s σ H _ I hq) fun us s1 ⟨xs, H1, I1, r, z, q⟩ => ⟨by rw [← r.length]; exact z, ?_⟩)
  have hf : H1 s1.heap.objs.size = none := I1.hok.fresh (Nat.le_refl _)
  refine ⟨.ref s1.heap.objs.size, upd H1 s1.heap.objs.size (.lst xs), I1.laid (t' := s1.toks) (fun b u e => Heap.get?_push_of_some _ e) (Nat.le_refl _) ?_, rfl, q _ hf⟩
  exact ⟨z, us, 0, r, Heap.get?_push_size _ rfl⟩
end

/-! ### what a def promises -/
/-- a def's promise: the bound arguments in the parameters' order, the heap, the wanted end, the wanted exception -/
noncomputable abbrev Sp := List V → Hp → VK → XK → Prop
/-- how an exception lies behind a call (file 08 gives it): the callers' frames, abstract heap and state ahead of the call, the wish, the exception, the state -/
noncomputable abbrev CXT := List Env → Hp → Shared → XK → Value → Shared → Prop

/-- the state at a call -/
structure Env0 (P : Program) (w : World) (K : PySem.W.Frag) (mg : Str → Option Value) (base : Heap) (A : Around) (outer : List Env) (s : Shared) (H : Hp) : Prop where
  frames : A.frames = some outer
  mod : Mod K mg base
  bs : ∀ b o, base.get? b = some o → s.heap.get? b = some o ∧ H b = none
  bsz : base.objs.size ≤ s.heap.objs.size
  funs : s.heap.FunFrames base outer
  frf : ∀ b ∈ frs outer, H b = none
  hok : HOk P w H s.heap
  bare : AllBare s.gens
/-- a call's end -/
noncomputable def CE (outer : List Env) (P : Program) (w : World) (H : Hp) (s : Shared) (Q : VK) (u : Value) (s' : Shared) : Prop :=
  ∃ v H', s'.os = s.os ∧ AllBare s'.gens ∧ Un (frs outer) [] H H' s.heap s'.heap ∧ HOk P w H' s'.heap ∧ RelV v u ∧ Q v H'
noncomputable def CR (CX : CXT) (outer : List Env) (P : Program) (w : World) (H : Hp) (s : Shared) (Q : VK) (E : XK) (r : Result) (s' : Shared) : Prop :=
  match r with
  | .ok (.ret u) => CE outer P w H s Q u s'
  | .ok _ => False
  | .error e => CX outer H s E e s'
structure FnOk (P : Program) (w : World) (K : PySem.W.Frag) (mg : Str → Option Value) (base : Heap) (CX : CXT) (k : Nat) (f : Addr) (fd : FuncData) (ps : List Str) (sp : Sp) : Prop where
  len : ∀ vs H Q E, sp vs H Q E → vs.length = ps.length
  run : ∀ (A : Around) (outer : List Env) (s : Shared) (H : Hp) (args : Args) (us : List Value) (vs : List V) (Q : VK) (E : XK), Room k A → Env0 P w K mg base A outer s H → BindsTo s fd args (ps.zip us) → Vals vs us → sp vs H Q E →
    codeAny (model P w) A (.call (.ref f) args) (CR CX outer P w H s Q E) s
theorem FnOk.mono {P : Program} {w : World} {K : PySem.W.Frag} {mg : Str → Option Value} {base : Heap} {CX : CXT} {j k : Nat} {f : Addr} {fd : FuncData} {ps : List Str} {sp : Sp} (F : FnOk P w K mg base CX j f fd ps sp) (h : j ≤ k) :
    FnOk P w K mg base CX k f fd ps sp := ⟨F.len, fun A outer s H args us vs Q E hr => F.run A outer s H args us vs Q E (hr.mono h)⟩
/-- a weaker promise -/
theorem FnOk.imp {P : Program} {w : World} {K : PySem.W.Frag} {mg : Str → Option Value} {base : Heap} {CX : CXT} {k : Nat} {f : Addr} {fd : FuncData} {ps : List Str} {sp sp' : Sp} (F : FnOk P w K mg base CX k f fd ps sp)
    (h : ∀ vs H Q E, sp' vs H Q E → sp vs H Q E) : FnOk P w K mg base CX k f fd ps sp' :=
  ⟨fun vs H Q E q => F.len vs H Q E (h _ _ _ _ q), fun A outer s H args us vs Q E hr he hb hv hs => F.run A outer s H args us vs Q E hr he hb hv (h _ _ _ _ hs)⟩

theorem Env0.in1 {P : Program} {w : World} {K : PySem.W.Frag} {mg : Str → Option Value} {base : Heap} {A : Around} {outer : List Env} {s : Shared} {H : Hp} (e : Env0 P w K mg base A outer s H) :
    Env0 P w K mg base A.in1 outer s H := ⟨e.frames, e.mod, e.bs, e.bsz, e.funs, e.frf, e.hok, e.bare⟩

section
variable {X : Cx} {pins : List (Addr × Obj)} {σ : St} {H : Hp} {s s' : Shared}
/-- from a body: what a callee wants -/
theorem Inv.env0 (I : Inv X pins σ H s) : Env0 X.prog X.w X.K X.mg X.base X.A X.stack s H :=
  ⟨I.ok.frames, I.ok.mod, I.bs, Nat.le_trans I.ok.bsz I.sz, I.stack, I.stkFree, I.hok, I.bare⟩
/-- behind a call -/
theorem Inv.after {Q : VK} {u : Value} (I : Inv X pins σ H s) (h : CE X.stack X.prog X.w H s Q u s') : EP X pins σ Q u s' := by
  obtain ⟨v, H', os, bare, un, hok, r, q⟩ := h
  obtain ⟨hh, g, d, t, os'⟩ := s'
  obtain rfl : os' = s.os := os
  exact ⟨v, H', I.call (h' := hh) (g' := g) (d' := d) (t' := t) (ch := []) un hok bare (fun b z => absurd z (by simp)), r, q⟩
end

/-! ### calls -/
/-- f(..): the written arguments, then the defaults dvs; E: what is wanted of an exception -/
noncomputable def tCall (sp : Sp) (dvs : List V) (E : XK) (t : TA) : TE := fun σ H Q => t σ H fun vs H1 => sp (vs ++ dvs) H1 Q E

/-- how the parameters are bound: us the positional arguments, kw the keywords' values by name, ds the defaults that fill up -/
noncomputable def Binds (K : PySem.W.Frag) (fd : FuncData) (ps : List Str) (ds : List Value) : Prop :=
  ∀ (s : Shared) (us : List Value), K.In s.heap → (us ++ ds).length = ps.length → BindsTo s fd ⟨us, []⟩ (ps.zip (us ++ ds))
/-- every parameter is given -/
theorem Binds.all {K : PySem.W.Frag} {fd : FuncData} {ps : List Str} (h : ∀ us : List Value, us.length = ps.length → bindArgs fd ⟨us, []⟩ = pure (ps.zip us)) : Binds K fd ps [] := fun s us _ hl => by
  rw [List.append_nil] at hl ⊢
  exact .of_eq (h us hl)

/-- an exception of a callee reaches what this body wants of exceptions -/
noncomputable def Passes (CX : CXT) (X : Cx) (E : XK) : Prop := ∀ (pins : List (Addr × Obj)) (σ : St) (H : Hp) (s : Shared) (e : Value) (s' : Shared), Inv X pins σ H s → CX X.stack H s E e s' → X.xe e s'

section
variable {X : Cx} {CX : CXT} {k : Nat} {f C : Addr} {fd : FuncData} {ps : List Str} {sp : Sp} {dvs : List V} {ds : List Value} {E : XK} {x m : Str} {p pos apos : Pos} {e o : Expr} {es : List Expr} {ta : TE} {t : TA}

/-- the callee runs -/
theorem run_fn {pins : List (Addr × Obj)} {σ : St} {H : Hp} {s : Shared} {Q : VK} {us : List Value} {vs : List V} (F : FnOk X.prog X.w X.K X.mg X.base CX k f fd ps sp) (hr : Room k X.A) (hb : Binds X.K fd ps ds) (hd : Vals dvs ds) (hx : Passes CX X E)
    (I : Inv X pins σ H s) (r : Vals vs us) (h : sp (vs ++ dvs) H Q E) : wpAny (model X.prog X.w) X.A (call (.ref f) us) (EP X pins σ Q) X.xe s := by
  have r2 : Vals (vs ++ dvs) (us ++ ds) := r.append hd
  have hl : (us ++ ds).length = ps.length := by rw [← r2.length]; exact F.len _ _ _ _ h
  refine wpAny_call (codeAny_mono (F.run X.A X.stack s H ⟨us, []⟩ (us ++ ds) (vs ++ dvs) Q E hr I.env0 (hb s us I.kIn hl) r2 h) fun r s' hq => ?_)
  cases r with
  | error e => exact hx pins σ H s e s' I hq
  | ok fl =>
    cases fl with
    | ret u => exact I.after hq
    | next => exact False.elim hq
    | brk => exact False.elim hq
    | cont => exact False.elim hq

theorem pe_call (F : FnOk X.prog X.w X.K X.mg X.base CX k f fd ps sp) (hr : Room k X.A) (hg : Gl X x) (hm : X.mg x = some (.ref f)) (hk : PySem.W.keepIn X.K (.ref f) = true) (hb : Binds X.K fd ps ds) (hd : Vals dvs ds) (hx : Passes CX X E)
    (ha : PA X (e :: es) t) (hdb : (x == ("__debug__" : Str)) = false := by decide) (he : starEach (e :: es) X.env = (false, eval e X.env) :: starEach es X.env := by rfl) (hpl : (backTo pos (starEach es X.env)).any (·.1) = false := by rfl) :
    PE X (.Call (.Name x p) (e :: es) [] pos) (tCall sp dvs E t) := by
  intro pins s σ H Q I h
  refine wpAny_Call_Name_kw (ld_glob I hg hm ?_ hdb)
  refine PySem.W.callWith_K (h₀ := X.base) I.ok.mod.kin hk (thn (ha pos pins s σ H _ I h) fun us s1 ⟨vs, H1, I1, r, q⟩ => ⟨I1.kIn, ?_⟩) he hpl
  exact run_fn F hr hb hd hx I1 r q


/-- what a class must have to be made -/
structure Mk (K : PySem.W.Frag) (C f : Addr) : Prop where
  makes : PySem.W.makesIn K C = true
  init : PySem.W.findIn K (.ref C) "__init__" = some (some (.ref f))
  fn : PySem.W.isFn K (.ref f) = true
  kp : PySem.W.keepIn K (.ref C) = true

end

/-! ### keywords -/
section
variable {X : Cx} {CX : CXT} {k : Nat} {f C : Addr} {fd : FuncData} {ps ks : List Str} {sp : Sp} {E : XK} {x m : Str} {p pos apos kpos : Pos} {e o : Expr} {es : List Expr} {kws : List Keyword} {te ta : TE} {t tk : TA} {nm : Option Str}

/-- how a call with keywords binds: g puts the positional values us and the keywords' values ws (names ks) in the parameters' order, defaults among them -/
structure KBinds (K : PySem.W.Frag) (fd : FuncData) (ps ks : List Str) (g : List Value → List Value → List Value) (gV : List V → List V → List V) : Prop where
  to : ∀ (s : Shared) (us ws : List Value), K.In s.heap → (g us ws).length = ps.length → BindsTo s fd ⟨us, ks.zip ws⟩ (ps.zip (g us ws))
  rel : ∀ {vs : List V} {us : List Value} {zs : List V} {ws : List Value}, Vals vs us → Vals zs ws → Vals (gV vs zs) (g us ws)
variable {g : List Value → List Value → List Value} {gV : List V → List V → List V}
end

/-! ### a def's body keeps its promise -/
/-- names: the parameters first -/
structure FnScope (N P : List Str) (sc : Scope) : Prop where
  kind : sc.kind = .function
  co : sc.isCoroutine = false
  gen : sc.isGenerator = false
  nd : N.Nodup
  pre : N.take P.length = P
  par : ∀ x ∈ P, sc.names.lookup x = some .local ∨ sc.names.lookup x = some .cell
  nofree : ∀ y ∈ sc.names, y.2 ≠ .free

theorem bindL_out {kindOf : Str → Option NameKind} {x : Str} : ∀ {binds : List (Str × Value)} {m : Str → Option Value}, (∀ v, (x, v) ∉ binds) → bindL kindOf binds m x = m x
  | [], _, _ => rfl
  | (n, v) :: r, m, h => by
    unfold bindL
    rw [bindL_out fun w hw => h w (List.mem_cons_of_mem _ hw)]
    split
    · have : x ≠ n := by rintro rfl; exact h v List.mem_cons_self
      simp [this]
    · rfl
theorem bindC_out {kindOf : Str → Option NameKind} {x : Str} : ∀ {binds : List (Str × Value)} {m : Str → Option Value}, (∀ v, (x, v) ∉ binds) → bindC kindOf binds m x = m x
  | [], _, _ => rfl
  | (n, v) :: r, m, h => by
    unfold bindC
    rw [bindC_out fun w hw => h w (List.mem_cons_of_mem _ hw)]
    split
    · rfl
    · have : x ≠ n := by rintro rfl; exact h v List.mem_cons_self
      simp [this]
theorem bindL_get {kindOf : Str → Option NameKind} {x : Str} {v : Value} : ∀ {P : List Str} {vs : List Value} {i : Nat} {m : Str → Option Value}, P.Nodup → P[i]? = some x → vs[i]? = some v → kindOf x = some .local →
    bindL kindOf (P.zip vs) m x = some v
  | [], _, _, _, _, h, _, _ => by simp at h
  | _ :: _, [], _, _, _, _, h, _ => by simp at h
  | p :: P, w :: vs, 0, m, nd, h1, h2, hk => by
    simp at h1 h2; subst h1; subst h2
    show bindL kindOf ((p, w) :: P.zip vs) m p = _
    unfold bindL
    rw [bindL_out fun v hv => (List.nodup_cons.mp nd).1 (List.of_mem_zip hv).1, if_pos hk]
    simp
  | p :: P, w :: vs, i + 1, m, nd, h1, h2, hk => by
    show bindL kindOf ((p, w) :: P.zip vs) m x = _
    unfold bindL
    exact bindL_get (i := i) (List.nodup_cons.mp nd).2 (by simpa using h1) (by simpa using h2) hk
theorem bindC_get {kindOf : Str → Option NameKind} {x : Str} {v : Value} : ∀ {P : List Str} {vs : List Value} {i : Nat} {m : Str → Option Value}, P.Nodup → P[i]? = some x → vs[i]? = some v → kindOf x ≠ some .local →
    bindC kindOf (P.zip vs) m x = some v
  | [], _, _, _, _, h, _, _ => by simp at h
  | _ :: _, [], _, _, _, _, h, _ => by simp at h
  | p :: P, w :: vs, 0, m, nd, h1, h2, hk => by
    simp at h1 h2; subst h1; subst h2
    show bindC kindOf ((p, w) :: P.zip vs) m p = _
    unfold bindC
    rw [bindC_out fun v hv => (List.nodup_cons.mp nd).1 (List.of_mem_zip hv).1, if_neg hk]
    simp
  | p :: P, w :: vs, i + 1, m, nd, h1, h2, hk => by
    show bindC kindOf ((p, w) :: P.zip vs) m x = _
    unfold bindC
    exact bindC_get (i := i) (List.nodup_cons.mp nd).2 (by simpa using h1) (by simpa using h2) hk

/-- the names' values at the entry -/
noncomputable def start (N : List Str) (vs : List V) : St := vs.map some ++ List.replicate (N.length - vs.length) none

/-- the context of a def's body, at its entry; an exception leaves the frame, then lies as CX says -/
noncomputable def cxOf (CX : CXT) (P : Program) (w : World) (K : PySem.W.Frag) (mg : Str → Option Value) (base : Heap) (N : List Str) (qual : Str) (scope : Scope) (f : Addr) (cd : Value) (A : Around) (outer : List Env) (s : Shared) (H : Hp) (E : XK) : Cx where
  prog := P
  w := w
  K := K
  mg := mg
  base := base
  A := A.deeper (envOfC qual scope s.heap.objs.size f cd)
  N := N
  s₀ := s
  H₀ := H
  env := envOfC qual scope s.heap.objs.size f cd
  outer := outer
  stack := envOfC qual scope s.heap.objs.size f cd :: outer
  ex := []
  calm := true
  fn := fun _ => true
  pn := []
  xe := fun e s' => wpAny (model P w) (A.deeper (envOfC qual scope s.heap.objs.size f cd)) (leaving (envOfC qual scope s.heap.objs.size f cd) e) (fun _ s'' => CX outer H s E e s'') (fun e' s'' => CX outer H s E e' s'') s'

theorem cell_has {sc : Scope} {n : Nat} {x : Str} (h : sc.names.lookup x = some .cell) : ∃ c, (cellsFrom n sc.names []).lookup x = some c := by
  have q := PySem.W.cellsFrom_some sc.names n [] (.inl h)
  exact Option.isSome_iff_exists.mp q

theorem inv_start {CX : CXT} {P : Program} {w : World} {K : PySem.W.Frag} {mg : Str → Option Value} {base : Heap} {N ps : List Str} {qual : Str} {scope : Scope} {f : Addr} {cd : Value} {A : Around} {outer : List Env} {s s1 : Shared} {H : Hp} {E : XK} {us : List Value} {vs : List V}
    (S : FnScope N ps scope) (hd : A.handled = none) (e0 : Env0 P w K mg base A outer s H) (hl : vs.length = ps.length) (r : Vals vs us)
    (x : InCallC s s.heap.objs.size (bindL (envOfC qual scope s.heap.objs.size f cd).kindOf (ps.zip us) fun _ => none) (cellsFrom (s.heap.objs.size + 1) scope.names []) (bindC (envOfC qual scope s.heap.objs.size f cd).kindOf (ps.zip us) fun _ => none) s1) :
    Inv (cxOf CX P w K mg base N qual scope f cd A outer s H E) [] (start N vs) H s1 := by
  have hpl : ps.length ≤ N.length := by have := congrArg List.length S.pre; rw [List.length_take] at this; omega
  obtain ⟨h1, tk, rfl, hk⟩ := x.done
  have noA : ∀ b : Addr, b ∉ (cxOf CX P w K mg base N qual scope f cd A outer s H E).ex := fun b z => absurd (show b ∈ ([] : List Addr) from z) (by simp)
  refine ⟨⟨e0.mod, S.kind, rfl, rfl, Nat.le_refl _, fun y z c h1 h2 => ?_, fun y hy => ?_, fun y c _ h => ?_, fun _ => hd, Around.frames_deeper e0.frames, .inr ⟨rfl, rfl⟩, fun b z => absurd z (noA b), e0.bs, e0.bsz, fun b _ _ => noA b, fun b z => absurd z (noA b), e0.funs, e0.frf⟩,
    rfl, e0.bare, Un.kept hk, ⟨_, x.toInCall.ns, fun i y v h1 h2 h3 => ?_⟩, fun y c h => ⟨_, x.cell y c h⟩, e0.hok.fresh (Nat.le_refl _), fun y c h => ?_, fun p hp => absurd (show p ∈ ([] : List (Addr × Obj)) from hp) (by simp), e0.hok.kept hk, ?_⟩
  · exact name_of_addr x.apart (PySem.mem_of_lookup h1) (PySem.mem_of_lookup h2)
  · have hy : scope.names.lookup y = some .cell ∨ scope.names.lookup y = some .free := hy
    rcases hy with hy | hy
    · exact cell_has hy
    · exact absurd rfl (S.nofree _ (PySem.mem_of_lookup hy))
  · exact Nat.le_of_lt (x.above y c (PySem.mem_of_lookup h))
  · have hi : i < vs.length := by
      unfold start at h2
      by_cases hi : i < vs.length
      · exact hi
      · rw [List.getElem?_append_right (by simpa using hi)] at h2
        rw [List.getElem?_replicate] at h2
        split at h2 <;> cases h2
    have ha : vs[i]? = some v := by
      unfold start at h2
      rw [List.getElem?_append_left (by simpa using hi), List.getElem?_map] at h2
      cases e : vs[i]? with
      | none => rw [e] at h2; cases h2
      | some a => rw [e] at h2; cases h2; rfl
    obtain ⟨u, hu, rv⟩ := r.get ha
    have hp : ps[i]? = some y := by
      rw [← S.pre, List.getElem?_take_of_lt (by omega)]; exact h1
    have ndP : ps.Nodup := by rw [← S.pre]; exact S.nd.sublist (List.take_sublist _ _)
    refine ⟨u, rv, ?_⟩
    rcases S.par y (List.mem_of_getElem? hp) with k | k
    · exact .inl ⟨k, bindL_get ndP hp hu k⟩
    · obtain ⟨c, e⟩ := cell_has (n := s.heap.objs.size + 1) k
      refine .inr ⟨.inl k, c, e, ?_⟩
      have q := x.cell y c e
      rw [bindC_get ndP hp hu (by show scope.names.lookup y ≠ _; rw [k]; decide)] at q
      exact q
  · exact e0.hok.fresh (Nat.le_of_lt (x.above y c (PySem.mem_of_lookup h)))
  · unfold start
    show _ = N.length
    rw [List.length_append, List.length_map, List.length_replicate]
    omega

/-- THE RULE: a def (or a method) of the text, by its body. The body's reading t is chosen for each entry; it is run at the parameters' values -/
theorem fn_of {CX : CXT} {P : Program} {w : World} {K : PySem.W.Frag} {mg : Str → Option Value} {base : Heap} {k : Nat} {f : Addr} {name qual : Str} {params : Arguments} {body : List Stmt} {scope : Scope} {dV kV doc pm cdv ct oc : Value} {an od : Option Addr}
    {osl : Array (Option Value)} {N ps : List Str} {sp : Sp} (lk : K.lookup f = some ⟨oc, od, .func (PySem.W.fnOf name qual params body scope dV kV doc pm an cdv ct), osl⟩) (hcd : PySem.W.codeIn K cdv qual = true) (S : FnScope N ps scope)
    (len : ∀ vs H Q E, sp vs H Q E → vs.length = ps.length)
    (hbody : ∀ (A : Around) (outer : List Env) (s : Shared) (H : Hp) (vs : List V) (Q : VK) (E : XK), Room k (A.deeper (envOfC qual scope s.heap.objs.size f cdv)) → sp vs H Q E →
      ∃ t, PSs (cxOf CX P w K mg base N qual scope f cdv A outer s H E) body t ∧ t { nx := fun _ H' => Q .non H', rt := Q } (start N vs) H) :
    FnOk P w K mg base CX (k + 1) f (PySem.W.fnOf name qual params body scope dV kV doc pm an cdv ct) ps sp := by
  refine ⟨len, fun A outer s H args us vs Q E hr e0 hb r hsp => ?_⟩
  have hl := len _ _ _ _ hsp
  have KX : K.In s.heap := e0.mod.kin.keeps fun b o e => (e0.bs b o e).1
  have lim : s.heap.NoLimit := e0.mod.nolimit.keeps fun b o e => (e0.bs b o e).1
  have hkind : ∀ y ∈ ps.zip us, scope.names.lookup y.1 = some .local ∨ (scope.names.lookup y.1 = some .cell ∧ ((cellsFrom (s.heap.objs.size + 1) scope.names []).lookup y.1).isSome = true) := fun ⟨n, v⟩ hy => by
    rcases S.par n (List.of_mem_zip hy).1 with q | q
    · exact .inl q
    · exact .inr ⟨q, PySem.W.cellsFrom_some _ _ _ (.inl q)⟩
  refine codeAny_call_function hr.depth (KX _ _ lk) rfl S.co S.gen rfl (PySem.W.codeRec_of KX hcd) (hb _ _ _ _ ?_)
  refine wpAny_newFunctionEnv_cells S.kind hkind fun env he s1 x => ?_
  subst he
  refine ⟨lim.keeps x.toInCall.keep, codeAny_func ?_⟩
  obtain ⟨t, ht, hq⟩ := hbody A outer s H vs Q E (hr.deeper _) hsp
  have I : Inv (cxOf CX P w K mg base N qual scope f cdv A outer s H E) [] (start N vs) H s1 := inv_start S hr.hd e0 hl r x
  refine wpAny_mono (ht [] s1 (start N vs) H _ I hq) (fun fl s' hs => ?_) fun e s' hs => hs
  have fin : ∀ {σ' : St} {H' : Hp} {v : V} {u : Value}, Inv (cxOf CX P w K mg base N qual scope f cdv A outer s H E) [] σ' H' s' → RelV v u → Q v H' → CE outer P w H s Q u s' :=
    fun {σ' H' v u} J rv q => ⟨v, H', J.os, J.bare, J.base, J.hok, rv, q⟩
  cases fl with
  | ret u =>
    obtain ⟨v, σ', H', J, rv, q⟩ := hs
    exact fin J rv q
  | next =>
    obtain ⟨σ', H', J, q⟩ := hs
    exact fin (v := V.non) (u := Value.none) J rfl q
  | brk =>
    obtain ⟨_, _, _, q⟩ := hs
    exact False.elim q
  | cont =>
    obtain ⟨_, _, _, q⟩ := hs
    exact False.elim q
end L2

namespace L2
open PySem PySem.Spec PyProof.Rows
section
variable {X : Cx} {x : Str} {p pos : Pos} {e : Expr} {es : List Expr} {t : TA} {id T : String} {r : List V → Hp → VK → Prop}

noncomputable def tCB (r : List V → Hp → VK → Prop) (t : TA) : TE := fun σ H Q => t σ H fun vs H1 => r vs H1 Q
/-- f(e, ..), f a built-in function -/
theorem pe_callB (hc : CallR X (.builtin id) r) (hg : Gl X x) (hm : X.mg x = none) (hv : bootBuiltins x = some (.builtin id)) (ha : PA X (e :: es) t) (hn : x ≠ "__name__" := by decide) (hdb : (x == ("__debug__" : Str)) = false := by decide)
    (he : starEach (e :: es) X.env = (false, eval e X.env) :: starEach es X.env := by rfl) (hpl : (backTo pos (starEach es X.env)).any (·.1) = false := by rfl) : PE X (.Call (.Name x p) (e :: es) [] pos) (tCB r t) := by
  intro pins s σ H Q I h
  refine wpAny_Call_Name_kw (ld_blt I hg hm hv ?_ hn hdb)
  exact PyProof.Rows.callWith_builtin1 (thn (ha pos pins s σ H _ I h) fun us s1 ⟨vs, H1, I1, r1, q1⟩ => hc pins s1 σ H1 vs us Q I1 r1 q1) he hpl
/-- T(e, ..), T a built-in type -/
theorem pe_callTy (hc : CallR X (.type T) r) (hg : Gl X x) (hm : X.mg x = none) (hv : bootBuiltins x = some (.type T)) (ha : PA X (e :: es) t) (hn : x ≠ "__name__" := by decide) (hdb : (x == ("__debug__" : Str)) = false := by decide)
    (he : starEach (e :: es) X.env = (false, eval e X.env) :: starEach es X.env := by rfl) (hpl : (backTo pos (starEach es X.env)).any (·.1) = false := by rfl) : PE X (.Call (.Name x p) (e :: es) [] pos) (tCB r t) := by
  intro pins s σ H Q I h
  refine wpAny_Call_Name_kw (ld_blt I hg hm hv ?_ hn hdb)
  exact PyProof.Rows.callWith_type1 (thn (ha pos pins s σ H _ I h) fun us s1 ⟨vs, H1, I1, r1, q1⟩ => hc pins s1 σ H1 vs us Q I1 r1 q1) he hpl
end
end L2

namespace HT
open PySem PyProof.Rows

/-- t < u of tuples of ints -/
noncomputable def lexLt : List Int → List Int → Bool
  | [], [] => false
  | [], _ :: _ => true
  | _ :: _, [] => false
  | x :: xs, y :: ys => if x = y then lexLt xs ys else decide (x < y)
theorem lexLt_cons (x y : Int) (xs ys : List Int) : lexLt (x :: xs) (y :: ys) = if x = y then lexLt xs ys else decide (x < y) := rfl
theorem lexLt_nil_nil : lexLt [] [] = false := rfl
theorem lexLt_nil_cons (y : Int) (ys : List Int) : lexLt [] (y :: ys) = true := rfl
theorem lexLt_cons_nil (x : Int) (xs : List Int) : lexLt (x :: xs) [] = false := rfl

theorem eqAt_int (A : Around) (s : Shared) (a : Int) (t : Tok) (c : Int) (u : Tok) : ∃ e, SeqAt.EqAt A s (.int a t) (.int c u) e ∧ (e = true ↔ a = c) :=
  ⟨(a == c), SeqAt.EqAt.int_int a t c u, by simp⟩
theorem rcLt_int (A : Around) (s : Shared) (a : Int) (t : Tok) (c : Int) (u : Tok) (prog : Program) (w : World) (E : Value → Shared → Prop) (Q : Value → Shared → Prop) (h : Q (.bool (decide (a < c))) s) :
    wpAny (model prog w) A (richCompare .Lt (.int a t) (.int c u)) Q E s :=
  (PyProof.Rows.lt_int h : wpAny (model prog w) A (compareOp .Lt (.int a t) (.int c u)) Q E s)

section
open PySem.SeqAt
open PySem.AutoSeq1 (wpAny_loadPart')
open PySem.MeetsSeq PySem.MeetsSeq2 PySem.MeetsSeq3

theorem tuple_lt_ints (l b : Addr) (items items2 : Array Value) (n n2 : Nat) (dd dd2 : Option Addr) (sl sl2 : Array (Option Value)) (ns ms : List Int) (hi : IntsAre items.toList ns) (hj : IntsAre items2.toList ms) :
    Meets (Builtin.«tuple.__lt__» ⟨[.ref l, .ref b], []⟩)
      (fun _ R s => s.heap.get? l = some { cls := .type "tuple", dict := dd, data := .seq items n, slots := sl } ∧ s.heap.get? b = some { cls := .type "tuple", dict := dd2, data := .seq items2 n2, slots := sl2 } ∧
        R (.ok (.ret (.bool (lexLt ns ms)))) s) :=
  .of_wp fun prog w A R s h => by
    obtain ⟨hp, g, d, tk, os⟩ := s; obtain ⟨hl, hb, h⟩ := h
    have f2 := AutoSeq1.sub_tuple_tuple
    have z1 : items.size = ns.length := by rw [← hi.length]; simp
    have z2 : items2.size = ms.length := by rw [← hj.length]; simp
    wp_walk using wpAny_loadPart' hl, wpAny_loadPart' hb, wpAny_forIn_list _ (fun rest b s' => b.1 = none ∧ s' = ⟨hp, g, d, tk, os⟩ ∧ ∃ (vs ws : List Value) (ns' ms' : List Int), rest = vs.zip ws ∧
      IntsAre vs ns' ∧ IntsAre ws ms' ∧ ns'.length + items2.size = ms'.length + items.size ∧ R (.ok (.ret (.bool (lexLt ns' ms')))) ⟨hp, g, d, tk, os⟩) _
    case turn =>
      rintro ⟨y, x⟩ rest b s' ⟨hb', rfl, vs, ws, ns', ms', hz, hvi, hwi, hlen, hR⟩
      cases hvi with
      | nil => rw [List.zip_nil_left] at hz; cases hz
      | cons a t hvi' =>
        cases hwi with
        | nil => rw [List.zip_nil_right] at hz; cases hz
        | cons c u hwi' =>
          rw [List.zip_cons_cons] at hz
          injection hz with hyx hrest
          injection hyx with hy hx
          subst hy hx
          rw [lexLt_cons] at hR
          simp only [List.length_cons] at hlen
          obtain ⟨e, he, hiff⟩ := eqAt_int A.in1 ⟨hp, g, d, tk, os⟩ a t c u
          refine wpAny_bind (he prog w _ _ ?_)
          cases e with
          | true =>
            rw [if_pos (hiff.mp rfl)] at hR
            wp_walk
            exact ⟨rfl, rfl, _, _, _, _, hrest, hvi', hwi', by omega, hR⟩
          | false =>
            rw [if_neg (fun q => absurd (hiff.mpr q) Bool.false_ne_true)] at hR
            have hri := rcLt_int A.in1 ⟨hp, g, d, tk, os⟩ a t c u prog w
            wp_walk using hri
            exact ⟨_, rfl, by simpa using hR⟩
    case fin =>
      rintro ⟨b1, b2⟩ s' ⟨hb', rfl, vs, ws, ns', ms', hz, hvi, hwi, hlen, hR⟩
      simp only at hb'
      subst hb'
      have hv : lexLt ns' ms' = decide (items.size < items2.size) := by
        cases hvi with
        | nil =>
          cases hwi with
          | nil =>
            simp only [List.length_nil] at hlen
            rw [lexLt_nil_nil]
            exact (decide_eq_false (by omega)).symm
          | cons c u hw =>
            simp only [List.length_nil, List.length_cons] at hlen
            rw [lexLt_nil_cons]
            exact (decide_eq_true (by omega)).symm
        | cons a t hv =>
          cases hwi with
          | nil =>
            simp only [List.length_nil, List.length_cons] at hlen
            rw [lexLt_cons_nil]
            exact (decide_eq_false (by omega)).symm
          | cons c u hw =>
            rw [List.zip_cons_cons] at hz
            cases hz
      rw [hv] at hR
      wp_walk
      exact ⟨_, rfl, by simpa [Builtin.Tuple.tupleCompareSizes] using hR⟩
    case h =>
      exact ⟨rfl, rfl, items.toList, items2.toList, ns, ms, rfl, hi, hj, by omega, h⟩
end

section
variable {prog : Program} {w : World} {A : Around} {E : Value → Shared → Prop} {s : Shared}

theorem lt_tupInts {l b : Addr} {items items2 : Array Value} {ns ms : List Int} {Q : Value → Shared → Prop} (hl : IsTup s.heap l items) (hb : IsTup s.heap b items2) (hi : IntsAre items.toList ns) (hj : IntsAre items2.toList ms)
    (hu : A.units < cLine) (h : Q (.bool (lexLt ns ms)) s) : wpAny (model prog w) A (compareOp .Lt (.ref l) (.ref b)) Q E s := by
  obtain ⟨⟨cls, dd, data, sl⟩, ho, hc, n, hd⟩ := id hl
  obtain ⟨⟨cls2, dd2, data2, sl2⟩, ho2, hc2, n2, hd2⟩ := id hb
  simp only at hc hd hc2 hd2
  subst hc hd hc2 hd2
  exact richCompare_meets_room (op := .Lt) ⟨_, ho, rfl⟩ ⟨_, ho2, rfl⟩ PySem.F.slot_tuple_lt PySem.F.entry_tuple_lt (PySem.F.args_tuple_lt_2 _ _) (tuple_lt_ints l b items items2 n n2 dd dd2 sl sl2 ns ms hi hj)
    ⟨ho, ho2, show Value.bool (lexLt ns ms) ≠ Value.notImplemented ∧ Q (.bool (lexLt ns ms)) s from ⟨(fun x => nomatch x), h⟩⟩ hu

/-- t + u, t not empty -/
theorem cat_tup {t b : Addr} {vs ws : List Value} {Q : Value → Shared → Prop} (ht : IsTup s.heap t vs.toArray) (hb : IsTup s.heap b ws.toArray) (hv : vs ≠ [])
    (h1 : ws = [] → Q (.ref t) s) (h2 : ws ≠ [] → Q (.ref s.heap.objs.size) { s with heap := s.heap.push { cls := .type "tuple", data := .seq (vs ++ ws).toArray } })
    (hsz : vs.length + ws.length ≤ sizeLine) : wpAny (model prog w) A (binaryOp .Add (.ref t) (.ref b)) Q E s := by
  obtain ⟨⟨cls, dd, data, sl⟩, ho, hc, n, hd⟩ := id ht
  obtain ⟨⟨cls2, dd2, data2, sl2⟩, ho2, hc2, n2, hd2⟩ := id hb
  simp only at hc hd hc2 hd2
  subst hc hd hc2 hd2
  have e : vs.toArray ++ ws.toArray = (vs ++ ws).toArray := by simp
  by_cases hw : ws = []
  · exact concat_meets ⟨_, ho, rfl⟩ ⟨_, ho2, rfl⟩ noFill_tuple_add seq_tuple_add PySem.F.slot_tuple_add PySem.F.entry_tuple_add (PySem.F.args_tuple_add_2 _ _)
      (tuple_addW1 t b vs.toArray ws.toArray n n2 dd dd2 sl sl2 (by simpa using hv) (by simp [hw])) ⟨ho, ho2, h1 hw⟩
  · refine concat_meets ⟨_, ho, rfl⟩ ⟨_, ho2, rfl⟩ noFill_tuple_add seq_tuple_add PySem.F.slot_tuple_add PySem.F.entry_tuple_add (PySem.F.args_tuple_add_2 _ _)
      (tuple_addW2 t b vs.toArray ws.toArray n n2 dd dd2 sl sl2 (by simpa using hv) (by simpa using hw) (by rw [List.size_toArray, List.size_toArray]; exact hsz)) ⟨ho, ho2, ?_⟩
    rw [e]
    exact h2 hw

/-! ### t[a:b], not the whole -/
/-- a slice's bound as a place among n (d where it is left out) -/
noncomputable def sIx (n d : Nat) : Option Int → Nat
  | none => d
  | some v => if v < 0 then (v + (n : Int)).toNat else min v.toNat n
theorem sIx_none (n d : Nat) : sIx n d none = d := rfl
theorem sIx_nat (n d k : Nat) : sIx n d (some (k : Int)) = min k n := by
  show (if (k : Int) < 0 then ((k : Int) + (n : Int)).toNat else min (k : Int).toNat n) = min k n
  rw [if_neg (by omega), Int.toNat_natCast]
theorem sIx_le (n d : Nat) (hd : d ≤ n) (o : Option Int) : sIx n d o ≤ n := by
  cases o with
  | none => exact hd
  | some v =>
    show (if v < 0 then (v + (n : Int)).toNat else min v.toNat n) ≤ n
    by_cases hv : v < 0
    · rw [if_pos hv]; omega
    · rw [if_neg hv]; exact Nat.min_le_right _ _
theorem clip_eq (v : Int) (n d : Nat) : (if v < 0 then max (v + (n : Int)) 0 else min v (n : Int)) = ((sIx n d (some v) : Nat) : Int) := by
  show (if v < 0 then max (v + (n : Int)) 0 else min v (n : Int)) = (((if v < 0 then (v + (n : Int)).toNat else min v.toNat n) : Nat) : Int)
  by_cases hv : v < 0
  · simp only [if_pos hv]; omega
  · simp only [if_neg hv]; omega
theorem adjust_gen (lo hi : Option Int) (n : Nat) : Builtin.Slice.sliceAdjust lo hi 1 (n : Int) = (((sIx n 0 lo : Nat) : Int), ((sIx n n hi : Nat) : Int)) := by
  have h1 : ¬ ((1 : Int) < 0) := by omega
  unfold Builtin.Slice.sliceAdjust
  simp only [h1, if_false]
  refine Prod.ext ?_ ?_
  · cases lo with
    | none => rfl
    | some v => exact clip_eq v n 0
  · cases hi with
    | none => rfl
    | some v => exact clip_eq v n n
theorem places_gen (i j : Nat) : Builtin.Slice.slicePlaces (i : Int) (j : Int) 1 = j - i := by
  unfold Builtin.Slice.slicePlaces
  have h1 : (1 : Int) > 0 := by omega
  simp only [h1, if_true, Int.ediv_one]
  split <;> omega
theorem slicePart_ {v : Value} {o : Option Int} {Q : Option Int → Shared → Prop} (p : IsPart v o) (h : Q o s) : wpAny (model prog w) A (Builtin.Slice.slicePartIndex v) Q E s := by
  cases p with
  | none => exact slicePart_none h
  | int i t => exact slicePart_int h
theorem sliceApplied_gen {sl : Addr} {vl vu : Value} {lo hi : Option Int} {n : Nat} {Q : Int × Int × Nat → Shared → Prop} (hs : s.heap.IsSliceOf sl vl vu .none) (pl : IsPart vl lo) (pu : IsPart vu hi)
    (h : Q (((sIx n 0 lo : Nat) : Int), 1, sIx n n hi - sIx n 0 lo) s) : wpAny (model prog w) A (Builtin.Slice.sliceApplied (.ref sl) (pure (n : Int))) Q E s := by
  obtain ⟨os, hos, hcs, hds⟩ := id hs
  unfold Builtin.Slice.sliceApplied Builtin.Slice.sliceFields
  refine wpAny_bind (wpAny_bind (wpAny_field hos hds (x := vl) rfl (wpAny_bind (wpAny_field hos hds (x := vu) rfl (wpAny_bind (wpAny_field hos hds (x := .none) rfl (wpAny_pure ?_)))))))
  refine wpAny_bind (slicePart_none ?_)
  show wpAny _ _ (if ((1 : Int) == 0) = true then _ else _) _ _ s
  rw [if_neg (by decide)]
  refine wpAny_bind (slicePart_ pl (wpAny_bind (slicePart_ pu (wpAny_bind (wpAny_pure ?_)))))
  show wpAny _ _ (match Builtin.Slice.sliceAdjust lo hi 1 (n : Int) with | (lo, hi) => pure (lo, (1 : Int), Builtin.Slice.slicePlaces lo hi 1)) _ _ s
  rw [adjust_gen lo hi n]
  show wpAny _ _ (pure (((sIx n 0 lo : Nat) : Int), (1 : Int), Builtin.Slice.slicePlaces ((sIx n 0 lo : Nat) : Int) ((sIx n n hi : Nat) : Int) 1)) _ _ s
  rw [places_gen]
  exact wpAny_pure h
theorem pick_gen (xs : Array Value) (i k : Nat) : ((List.range k).filterMap fun (m : Nat) => xs[((i : Int) + (m : Int) * 1).toNat]?).toArray = ((xs.toList.drop i).take k).toArray := by
  have e : (fun (m : Nat) => xs[((i : Int) + (m : Int) * 1).toNat]?) = fun m => xs[i + m]? := by
    funext m
    have : ((i : Int) + (m : Int) * 1).toNat = i + m := by omega
    rw [this]
  rw [e]
  have := pick_run xs i k
  rw [List.filterMap_map] at this
  have e2 : ((fun x => xs[x]?) ∘ fun x => i + x) = fun m => xs[i + m]? := rfl
  rw [e2] at this
  rw [this]

theorem getItem_tuple_cut {t sl : Addr} {items : Array Value} {vl vu : Value} {lo hi : Option Int} {Q : Value → Shared → Prop} (ht : IsTup s.heap t items) (hs : s.heap.IsSliceOf sl vl vu .none) (pl : IsPart vl lo) (pu : IsPart vu hi)
    (hw : ¬ (sIx items.size 0 lo = 0 ∧ sIx items.size items.size hi = items.size))
    (h : Q (.ref s.heap.objs.size) { s with heap := s.heap.push { cls := .type "tuple", data := .seq ((items.toList.drop (sIx items.size 0 lo)).take (sIx items.size items.size hi - sIx items.size 0 lo)).toArray } })
    (hsz : items.size ≤ sizeLine) : wpAny (model prog w) A (getItem (.ref t) (.ref sl)) Q E s := by
  have htake : sizeOk (.seq ((items.toList.drop (sIx items.size 0 lo)).take (sIx items.size items.size hi - sIx items.size 0 lo)).toArray) := by
    show ((items.toList.drop (sIx items.size 0 lo)).take (sIx items.size items.size hi - sIx items.size 0 lo)).toArray.size ≤ sizeLine
    rw [List.size_toArray, List.length_take, List.length_drop, Array.length_toList]
    omega
  have hj : sIx items.size items.size hi ≤ items.size := sIx_le _ _ (Nat.le_refl _) hi
  obtain ⟨os, hos, hcs, hds⟩ := id hs
  have hTs : s.TypeIs (.ref sl) "slice" := ⟨os, hos, hcs⟩
  unfold getItem
  try with_reducible refine wpAny_holding ?_
  first | refine wpAny_bind (wpAny_pure ?_) | skip
  refine wpAny_bind (wpAny_sequenceKey ht.typeIs (by decide) ?_)
  refine wpAny_bind (wpAny_callSpecial?_slot (name := Str.ofString "__getitem__") ht.typeIs PyProof.Rows.slot_tuple_getitem
    (wpAny_call_entry PyProof.Rows.slot_tuple_getitem ht.typeIs entry_tuple_getitem ?_ (args_tuple_getitem _ _)))
  show wpAny _ _ (Builtin.Tuple.tupleItemsOf (.ref t) >>= _) _ _ s
  refine wpAny_bind (tupleItemsOf_ ht ?_)
  refine wpAny_bind (wpAny_typeOf hTs ?_)
  rw [if_pos (by decide)]
  refine wpAny_bind (sliceApplied_gen hs pl pu ?_)
  have hno : ¬ ((((sIx items.size 0 lo : Nat) : Int) == 0 && (1 : Int) == 1 && (sIx items.size items.size hi - sIx items.size 0 lo) == items.size) = true) := by
    intro q
    rw [Bool.and_eq_true, Bool.and_eq_true] at q
    have q1 : ((sIx items.size 0 lo : Nat) : Int) = 0 := eq_of_beq q.1.1
    have q2 : sIx items.size items.size hi - sIx items.size 0 lo = items.size := eq_of_beq q.2
    exact hw ⟨by omega, by omega⟩
  show wpAny _ _ (if (((sIx items.size 0 lo : Nat) : Int) == 0 && (1 : Int) == 1 && (sIx items.size items.size hi - sIx items.size 0 lo) == items.size) = true then _ else _) _ _ s
  rw [if_neg hno, pick_gen]
  first
    | exact wpAny_bind (m := Builtin.Tuple.tupleExact _) (wpAny_newObj_type (wpAny_pure ⟨_, rfl, wpAny_pure h⟩) htake)
    | exact wpAny_bind (m := Builtin.Tuple.tupleExact _) (wpAny_newObj_type (wpAny_bind (wpAny_pure (wpAny_pure ⟨_, rfl, wpAny_pure h⟩))) htake)
    | exact wpAny_bind (wpAny_bind (m := Builtin.Tuple.tupleExact _) (wpAny_newObj_type (wpAny_pure (wpAny_pure ⟨_, rfl, wpAny_pure h⟩)) htake))
    | exact wpAny_bind (wpAny_bind (m := Builtin.Tuple.tupleExact _) (wpAny_newObj_type (wpAny_pure ⟨_, rfl, wpAny_pure h⟩) htake))
end
end HT

namespace L2
open PySem PySem.Spec PyProof.Rows

/-! ### the parts of a slice -/
noncomputable abbrev TO := St → Hp → (Option Int → Hp → Prop) → Prop
/-- a slice's part (left out, or an int) -/
noncomputable def PO (X : Cx) (e : Option Expr) (t : TO) : Prop :=
  ∀ (pins : List (Addr × Obj)) (s : Shared) (σ : St) (H : Hp) (Q : Option Int → Hp → Prop), Inv X pins σ H s → t σ H Q →
    wpAny (model X.prog X.w) X.A (evalPart e X.env) (fun u s' => ∃ o H', Inv X pins σ H' s' ∧ IsPart u o ∧ Q o H') X.xe s
noncomputable def tNoPart : TO := fun _ H Q => Q none H
noncomputable def tPart (t : TE) : TO := fun σ H Q => t σ H fun x H1 => ∃ i, x = .int i ∧ Q (some i) H1

theorem intsAre_of {ns : List Int} : ∀ {us : List Value}, Vals (ns.map V.int) us → IntsAre us ns := by
  induction ns with
  | nil => intro us r; rw [List.map_nil] at r; cases r; exact .nil
  | cons n ns ih =>
    intro us r
    rw [List.map_cons] at r
    cases r with
    | cons r1 r2 =>
      obtain ⟨t, e⟩ := r1
      subst e
      exact .cons n t (ih r2)

section
variable {X : Cx} {e : Expr} {te : TE} {lo hi : Option Expr} {tl th : TO} {pos p2 : Pos}

theorem po_none : PO X none tNoPart := by
  intro pins s σ H Q I h
  rw [evalPart_none]
  exact wpAny_pure ⟨none, H, I, .none, h⟩
theorem po_some (h : PE X e te) : PO X (some e) (tPart te) := by
  intro pins s σ H Q I hw
  rw [evalPart_some]
  refine thn (h pins s σ H _ I hw) fun u s1 ⟨x, H1, I1, r1, q1⟩ => ?_
  obtain ⟨i, rfl, q⟩ := q1
  obtain ⟨t, rfl⟩ := r1
  exact ⟨some i, H1, I1, .int i t, q⟩

/-- what a slice of a value is, by values: the slice object stands at sl -/
noncomputable def SlR (X : Cx) (r : V → Option Int → Option Int → Hp → VK → Prop) : Prop :=
  ∀ (pins : List (Addr × Obj)) (s : Shared) (σ : St) (H : Hp) (x : V) (v vl vu : Value) (lo hi : Option Int) (sl : Addr) (Q : VK), Inv X pins σ H s → RelV x v → s.heap.IsSliceOf sl vl vu .none → IsPart vl lo → IsPart vu hi → r x lo hi H Q →
    ∃ T id, typeLookup (.type T) "__getitem__" = pure (some (.builtin id)) ∧ s.TypeIs v T ∧ wpAny (model X.prog X.w) X.A (getItem v (.ref sl)) (EP X pins σ Q) X.xe s
theorem SlR.or {r r' : V → Option Int → Option Int → Hp → VK → Prop} (h : SlR X r) (h' : SlR X r') : SlR X (fun x lo hi H Q => r x lo hi H Q ∨ r' x lo hi H Q) := by
  intro pins s σ H x v vl vu lo hi sl Q I rx hs pl pu q
  rcases q with q | q
  · exact h pins s σ H x v vl vu lo hi sl Q I rx hs pl pu q
  · exact h' pins s σ H x v vl vu lo hi sl Q I rx hs pl pu q
noncomputable def tSl (r : V → Option Int → Option Int → Hp → VK → Prop) (te : TE) (tl th : TO) : TE := fun σ H Q => te σ H fun x H1 => tl σ H1 fun l H2 => th σ H2 fun u H3 => r x l u H3 Q
/-- a[lo:hi], any a -/
theorem pe_slice {r : V → Option Int → Option Int → Hp → VK → Prop} (hr : SlR X r) (he : PE X e te) (hl : PO X lo tl) (hu : PO X hi th) : PE X (.Subscript e (.Slice lo hi none p2) pos) (tSl r te tl th) := by
  intro pins s σ H Q I h
  refine Subscript_ (thn (he pins s σ H _ I h) fun v s1 ⟨x, H1, I1, r1, q1⟩ => ?_)
  refine wpAny_Slice (thn (hl pins s1 σ H1 _ I1 q1) fun vl s2 ⟨l, H2, I2, pl, q2⟩ => thn (hu pins s2 σ H2 _ I2 q2) fun vu s3 ⟨u, H3, I3, pu, q3⟩ => ?_)
  rw [evalPart_none]
  refine wpAny_pure ?_
  have I4 : Inv X pins σ H3 { s3 with heap := s3.heap.push { cls := .type "slice", data := .fields #[vl, vu, .none] } } := I3.kept (t' := s3.toks) fun b ob q => Heap.get?_push_of_some _ q
  obtain ⟨T, id, hT, ht, hg⟩ := hr pins { s3 with heap := s3.heap.push { cls := .type "slice", data := .fields #[vl, vu, .none] } } σ H3 x v vl vu l u s3.heap.objs.size Q I4 r1 (Heap.IsSliceOf.new ..) pl pu q3
  show wpAny (model X.prog X.w) X.A (subscriptTail e (.Slice lo hi none p2) v (.ref s3.heap.objs.size)) (EP X pins σ Q) X.xe { s3 with heap := s3.heap.push { cls := .type "slice", data := .fields #[vl, vu, .none] } }
  exact tail_any (ops := [.ref s3.heap.objs.size, v]) ht hT hg (by with_unfolding_all rfl)

/-- the items of xs[lo:hi] -/
noncomputable def cutV (xs : List V) (lo hi : Option Int) : List V := (xs.drop (HT.sIx xs.length 0 lo)).take (HT.sIx xs.length xs.length hi - HT.sIx xs.length 0 lo)
theorem cutV_length (xs : List V) (lo hi : Option Int) : (cutV xs lo hi).length ≤ xs.length := by
  unfold cutV
  rw [List.length_take, List.length_drop]
  omega
/-- t[lo:hi], not the whole of it (the whole would be t itself) -/
noncomputable def rSlT (K : PySem.W.Frag) : V → Option Int → Option Int → Hp → VK → Prop := fun x lo hi H Q => ∃ a xs, x = .ref a ∧ SqT K H a xs ∧
  ¬ (HT.sIx xs.length 0 lo = 0 ∧ HT.sIx xs.length xs.length hi = xs.length) ∧ ∀ p, H p = none → Q (.ref p) (upd H p (.tup (cutV xs lo hi)))
theorem sl_tup : SlR X (rSlT X.K) := by
  intro pins s σ H x v vl vu lo hi sl Q I rx hs pl pu h
  obtain ⟨a, xs, rfl, hx, hw, q⟩ := h
  cases rx
  obtain ⟨its, r, ht, hz⟩ := I.tuple hx
  have hlen : its.toArray.size = xs.length := by rw [List.size_toArray]; exact r.length.symm
  refine ⟨"tuple", _, PyProof.Rows.slot_tuple_getitem.lookup, ht.typeIs, ?_⟩
  refine HT.getItem_tuple_cut ht hs pl pu (by rw [hlen]; exact hw) ?_ (by rw [hlen]; exact hz)
  rw [hlen]
  refine ⟨.ref s.heap.objs.size, _, I.laid (t' := s.toks) (o := .tup (cutV xs lo hi)) (fun b ob q => Heap.get?_push_of_some _ q) (Nat.le_refl _) ?_, rfl, q _ (I.hok.fresh (Nat.le_refl _))⟩
  exact ⟨Nat.le_trans (cutV_length xs lo hi) hz, _, (r.drop (HT.sIx xs.length 0 lo)).take (HT.sIx xs.length xs.length hi - HT.sIx xs.length 0 lo), IsTupN.new _ _⟩

/-! ### t < u, t + u -/
noncomputable def rLtT (K : PySem.W.Frag) : R2 := fun x y H Q => ∃ a b ns ms, x = .ref a ∧ y = .ref b ∧ SqT K H a (ns.map V.int) ∧ SqT K H b (ms.map V.int) ∧ Q (.bl (HT.lexLt ns ms)) H
theorem op_ltT (hu : X.A.units < cLine) : OpR X (compareOp .Lt) (rLtT X.K) := by
  intro pins s σ H x y v u Q I rx ry h
  obtain ⟨a, b, ns, ms, rfl, rfl, ha, hb, q⟩ := h
  cases rx
  cases ry
  obtain ⟨its, r1, p1, _⟩ := I.tuple ha
  obtain ⟨its2, r2, p2, _⟩ := I.tuple hb
  have i1 : IntsAre its.toArray.toList ns := intsAre_of r1
  have i2 : IntsAre its2.toArray.toList ms := intsAre_of r2
  exact HT.lt_tupInts p1 p2 i1 i2 hu ⟨.bl (HT.lexLt ns ms), H, I, rfl, q⟩
/-- t + u, t not empty: u empty gives t itself -/
noncomputable def rCatT (K : PySem.W.Frag) : R2 := fun x y H Q => ∃ a b xs ys, x = .ref a ∧ y = .ref b ∧ SqT K H a xs ∧ SqT K H b ys ∧ xs ≠ [] ∧ xs.length + ys.length ≤ sizeLine ∧
  (ys = [] → Q (.ref a) H) ∧ (ys ≠ [] → ∀ p, H p = none → Q (.ref p) (upd H p (.tup (xs ++ ys))))
theorem Vals.nil_iff {xs : List V} {us : List Value} (r : Vals xs us) : us = [] ↔ xs = [] := by
  cases r with
  | nil => simp
  | cons _ _ => simp
theorem op_catT : OpR X (binaryOp .Add) (rCatT X.K) := by
  intro pins s σ H x y v u Q I rx ry h
  obtain ⟨a, b, xs, ys, rfl, rfl, ha, hb, hx, hz, q1, q2⟩ := h
  cases rx
  cases ry
  obtain ⟨its, r1, p1, _⟩ := I.tuple ha
  obtain ⟨its2, r2, p2, _⟩ := I.tuple hb
  refine HT.cat_tup p1 p2 (fun z => hx (r1.nil_iff.mp z)) (fun z => ⟨.ref a, H, I, rfl, q1 (r2.nil_iff.mp z)⟩) (fun z => ?_) (by rw [← r1.length, ← r2.length]; exact hz)
  refine ⟨.ref s.heap.objs.size, _, I.laid (t' := s.toks) (o := .tup (xs ++ ys)) (fun b ob q => Heap.get?_push_of_some _ q) (Nat.le_refl _) ?_, rfl, q2 (fun w => z (r2.nil_iff.mpr w)) _ (I.hok.fresh (Nat.le_refl _))⟩
  exact ⟨by rw [List.length_append]; exact hz, _, r1.append r2, IsTupN.new _ _⟩
end
end L2

namespace L2
open PySem PySem.Spec PyProof.Rows

/-! ### places -/
/-- the place that an index of any sign means -/
noncomputable def ixN (n : Nat) (i : Int) : Option Nat := if 0 ≤ i then (if i < n then some i.toNat else none) else if -(n : Int) ≤ i then some (i + n).toNat else none
noncomputable def atI {α : Type} (xs : List α) (i : Int) : Option α := (ixN xs.length i).bind fun j => xs[j]?
theorem ixN_seq {n : Nat} {i : Int} {j : Nat} (h : ixN n i = some j) : seqIndex? i n = some j ∧ j < n ∧ -(n : Int) ≤ i ∧ i < n := by
  unfold ixN at h
  by_cases h0 : 0 ≤ i
  · rw [if_pos h0] at h
    by_cases h1 : i < n
    · rw [if_pos h1] at h
      have e : i.toNat = j := Option.some.inj h
      exact ⟨by rw [seqIndex_of h0 h1, e], by omega, by omega, h1⟩
    · rw [if_neg h1] at h; cases h
  · rw [if_neg h0] at h
    by_cases h1 : -(n : Int) ≤ i
    · rw [if_pos h1] at h
      have e : (i + n).toNat = j := Option.some.inj h
      exact ⟨by rw [seqIndex_neg (by omega) h1, e], by omega, h1, by omega⟩
    · rw [if_neg h1] at h; cases h
theorem atI_get {α : Type} {xs : List α} {i : Int} {v : α} (h : atI xs i = some v) : ∃ j, seqIndex? i xs.length = some j ∧ xs[j]? = some v ∧ j < xs.length ∧ -(xs.length : Int) ≤ i ∧ i < xs.length := by
  unfold atI at h
  cases e : ixN xs.length i with
  | none => rw [e] at h; cases h
  | some j =>
    rw [e] at h
    obtain ⟨h1, h2, h3, h4⟩ := ixN_seq e
    exact ⟨j, h1, h, h2, h3, h4⟩
theorem atI_nat {α : Type} {xs : List α} {j : Nat} {v : α} (h : xs[j]? = some v) : atI xs (j : Int) = some v := by
  have hj : j < xs.length := (List.getElem?_eq_some_iff.mp h).1
  have e : ixN xs.length (j : Int) = some j := by
    unfold ixN
    rw [if_pos (by omega), if_pos (by omega)]; simp
  unfold atI; rw [e]; exact h

/-! ### what may be subscripted -/
/-- what stands as an index of a plain subscript -/
noncomputable def PlainIx (b : Expr) : Prop := ∀ o i, subscripted b false o i = operate [o, i] (getItem o i)
/-- a subscript by values -/
noncomputable def IxR (X : Cx) (r : R2) : Prop :=
  ∀ (value slice : Expr) (pins : List (Addr × Obj)) (s : Shared) (σ : St) (H : Hp) (x y : V) (v u : Value) (Q : VK), Inv X pins σ H s → RelV x v → RelV y u → r x y H Q →
    subscripted slice false v u = operate [v, u] (getItem v u) → wpAny (model X.prog X.w) X.A (subscriptTail value slice v u) (EP X pins σ Q) X.xe s
/-- a call of a builtin's method by values: the receiver, the arguments -/
noncomputable def MtR (X : Cx) (id : String) (r : V → List V → Hp → VK → Prop) : Prop :=
  ∀ (pins : List (Addr × Obj)) (s : Shared) (σ : St) (H : Hp) (x : V) (xs : List V) (v : Value) (us : List Value) (Q : VK), Inv X pins σ H s → RelV x v → Vals xs us → r x xs H Q →
    wpAny (model X.prog X.w) X.A (call (.builtin id) (v :: us)) (EP X pins σ Q) X.xe s
section
variable {X : Cx} {a b : Expr} {ta tb : TE} {pos : Pos}
theorem IxR.or {r r' : R2} (h : IxR X r) (h' : IxR X r') : IxR X (fun x y H Q => r x y H Q ∨ r' x y H Q) := by
  intro value slice pins s σ H x y v u Q I rx ry q hs
  rcases q with q | q
  · exact h value slice pins s σ H x y v u Q I rx ry q hs
  · exact h' value slice pins s σ H x y v u Q I rx ry q hs
theorem MtR.or {id : String} {r r' : V → List V → Hp → VK → Prop} (h : MtR X id r) (h' : MtR X id r') : MtR X id (fun x xs H Q => r x xs H Q ∨ r' x xs H Q) := by
  intro pins s σ H x xs v us Q I rx rs q
  rcases q with q | q
  · exact h pins s σ H x xs v us Q I rx rs q
  · exact h' pins s σ H x xs v us Q I rx rs q
/-- a[b] -/
theorem pe_ix {r : R2} (hr : IxR X r) (ha : PE X a ta) (hb : PE X b tb) (hs : PlainIx b) : PE X (.Subscript a b pos) (tOp r ta tb) := by
  intro pins s σ H Q I h
  exact Subscript_ (binT ha hb I h fun v u s2 x y H2 I2 rx ry q => hr a b pins s2 σ H2 x y v u Q I2 rx ry q (hs _ _))

noncomputable def rIxL (K : PySem.W.Frag) : R2 := fun x y H Q => ∃ p xs i v, x = .ref p ∧ y = .int i ∧ SqL K H p xs ∧ atI xs i = some v ∧ Q v H
noncomputable def rIxT (K : PySem.W.Frag) : R2 := fun x y H Q => ∃ p xs i v, x = .ref p ∧ y = .int i ∧ SqT K H p xs ∧ atI xs i = some v ∧ Q v H
theorem ix_list : IxR X (rIxL X.K) := by
  intro value slice pins s σ H x y v u Q I rx ry h hs
  obtain ⟨p, xs, i, z, rfl, rfl, hq, he, q⟩ := h
  cases rx
  obtain ⟨t, rfl⟩ := ry
  obtain ⟨its, r, pl, hz⟩ := I.list hq
  obtain ⟨j, h1, h2, h3, h4, h5⟩ := atI_get he
  obtain ⟨w, ew, rw'⟩ := r.get h2
  have hl := r.length
  have hn := line63
  have fin : EP X pins σ Q w s := ⟨z, H, I, rw', q⟩
  by_cases h0 : 0 ≤ i
  · have hj : i.toNat = j := by
      rw [seqIndex_of h0 h5] at h1
      exact Option.some.inj h1
    exact item_listR pl.isList h0 (by omega) (by rw [hj]; simpa using ew) fin hs
  · have hj : (i + (its.toArray.size : Int)).toNat = j := by
      rw [seqIndex_neg (by omega) h4] at h1
      rw [List.size_toArray, ← hl]
      exact Option.some.inj h1
    exact subscriptTail_builtinR (x := w) pl.isList.typeIs slot_list_getitem.lookup
      (wpAny_getItem_list_neg (Q := fun r s' => r = w ∧ EP X pins σ Q r s') pl.isList (by omega) (by rw [List.size_toArray] <;> omega) (by omega) (by rw [hj]; simpa using ew) ⟨rfl, fin⟩) hs
theorem ix_tup : IxR X (rIxT X.K) := by
  intro value slice pins s σ H x y v u Q I rx ry h hs
  obtain ⟨p, xs, i, z, rfl, rfl, hq, he, q⟩ := h
  cases rx
  obtain ⟨t, rfl⟩ := ry
  obtain ⟨its, r, pl, hz⟩ := I.tuple hq
  obtain ⟨j, h1, h2, h3, h4, h5⟩ := atI_get he
  obtain ⟨w, ew, rw'⟩ := r.get h2
  have hl := r.length
  have hn := line63
  have fin : EP X pins σ Q w s := ⟨z, H, I, rw', q⟩
  exact subscriptTail_builtinR (x := w) pl.typeIs slot_tuple_getitem.lookup
    (getItem_tuple (j := j) (Q := fun r s' => r = w ∧ EP X pins σ Q r s') pl (by omega) (by omega) (by rw [List.size_toArray, ← hl]; exact h1) (by simpa using ew) ⟨rfl, fin⟩) hs

/-! ### xs[i] = v, any sign -/
theorem Inv.lst {pins : List (Addr × Obj)} {σ : St} {H : Hp} {s : Shared} {p : Addr} {xs : List V} (I : Inv X pins σ H s) (h : H p = some (.lst xs)) :
    ∃ (its : List Value) (n : Nat), Vals xs its ∧ s.heap.get? p = some { cls := .type "list", data := .seq its.toArray n } ∧ xs.length ≤ sizeLine := by
  obtain ⟨z, its, n, r, e⟩ := I.hok p _ h
  exact ⟨its, n, r, e, z⟩

/-! ### slices -/

/-! ### in, not in: flat items -/

/-! ### len, list(x), tuple(x) of any list or tuple that is read -/
theorem call_len_seq : CallR X (.builtin "len") (fun xs H Q => ∃ p ys, xs = [.ref p] ∧ (SqL X.K H p ys ∨ SqT X.K H p ys) ∧ Q (.int ys.length) H) := by
  intro pins s σ H xs us Q I r h
  obtain ⟨p, ys, rfl, hq, q⟩ := h
  obtain ⟨u, rfl, rx⟩ := vals1 r
  cases rx
  have hn := line63
  rcases hq with hq | hq
  · obtain ⟨its, r', pl, hz⟩ := I.list hq
    have hlen := r'.length
    exact Calls.call_len_list pl.isList (by simp only [List.size_toArray] <;> omega) ⟨.int ys.length, H, I.tok _, ⟨s.toks + 1, by rw [List.size_toArray, hlen]⟩, q⟩
  · obtain ⟨its, r', pl, hz⟩ := I.tuple hq
    have hlen := r'.length
    exact len_tuple pl (by simp only [List.size_toArray] <;> omega) ⟨.int ys.length, H, I.tok _, ⟨s.toks + 1, by rw [List.size_toArray, hlen]⟩, q⟩
theorem CallR.or {f : Value} {r r' : List V → Hp → VK → Prop} (h : CallR X f r) (h' : CallR X f r') : CallR X f (fun xs H Q => r xs H Q ∨ r' xs H Q) := by
  intro pins s σ H xs us Q I rs q
  rcases q with q | q
  · exact h pins s σ H xs us Q I rs q
  · exact h' pins s σ H xs us Q I rs q
theorem call_list_of : CallR X (.type "list") (fun xs H Q => ∃ p ys, xs = [.ref p] ∧ (SqL X.K H p ys ∨ SqT X.K H p ys) ∧ ∀ l, H l = none → Q (.ref l) (upd H l (.lst ys))) := by
  intro pins s σ H xs us Q I r h
  obtain ⟨p, ys, rfl, hq, q⟩ := h
  obtain ⟨u, rfl, rx⟩ := vals1 r
  cases rx
  have fin : ∀ (its : List Value), Vals ys its → ys.length ≤ sizeLine → ∀ (h' : Heap) (c' : Nat), (∀ b o', s.heap.get? b = some o' → h'.get? b = some o') →
      h'.get? s.heap.objs.size = some { cls := .type "list", dict := none, data := .seq its.toArray c', slots := #[] } → EP X pins σ Q (.ref s.heap.objs.size) { s with heap := h' } := fun its r' hz h' c' kp e =>
    ⟨.ref s.heap.objs.size, _, I.laid (t' := s.toks) kp (Nat.le_refl _) (show ObjOk X.prog X.w _ h' _ (.lst ys) from ⟨hz, its, c', r', e⟩), rfl, q _ (I.hok.fresh (Nat.le_refl _))⟩
  rcases hq with hq | hq
  · obtain ⟨its, r', pl, hz⟩ := I.list hq
    have hlen := r'.length
    obtain ⟨o, ho, hc, n, hd⟩ := pl.isList
    exact call_list_seq p (.inl rfl) ho hc hd (fun h' c' kp e => fin its r' hz h' c' kp e) (by simp only [List.size_toArray] <;> omega)
  · obtain ⟨its, r', pl, hz⟩ := I.tuple hq
    have hlen := r'.length
    obtain ⟨o, ho, hc, n, hd⟩ := pl
    exact call_list_seq p (.inr rfl) ho hc hd (fun h' c' kp e => fin its r' hz h' c' kp e) (by simp only [List.size_toArray] <;> omega)
theorem call_tuple_of : CallR X (.type "tuple") (fun xs H Q => ∃ p ys, xs = [.ref p] ∧ ((SqL X.K H p ys ∧ ∀ l, H l = none → Q (.ref l) (upd H l (.tup ys))) ∨ (SqT X.K H p ys ∧ Q (.ref p) H))) := by
  intro pins s σ H xs us Q I r h
  obtain ⟨p, ys, rfl, h⟩ := h
  obtain ⟨u, rfl, rx⟩ := vals1 r
  cases rx
  rcases h with ⟨hq, q⟩ | ⟨hq, q⟩
  · obtain ⟨its, r', pl, hz⟩ := I.list hq
    have hlen := r'.length
    refine call_tuple_list pl.isList (fun h' kp => ?_) (by simp only [List.size_toArray] <;> omega)
    have I1 : Inv X pins σ H { s with heap := h' } := I.kept (t' := s.toks) kp
    have I2 : Inv X pins σ (upd H h'.objs.size (.tup ys)) { s with heap := h'.push { cls := .type "tuple", data := .seq its.toArray } } :=
      I1.laid (t' := s.toks) (fun b o e => Heap.get?_push_of_some _ e) (Nat.le_refl _) (show ObjOk X.prog X.w _ _ _ (.tup ys) from ⟨hz, its, r', IsTupN.new _ _⟩)
    exact ⟨.ref h'.objs.size, _, I2, rfl, q _ (I1.hok.fresh (Nat.le_refl _))⟩
  · obtain ⟨its, r', pl, hz⟩ := I.tuple hq
    exact call_tuple_same pl ⟨.ref p, H, I, rfl, q⟩

/-! ### the call of a builtin's method: o.m(..) -/
/-- the value is of that builtin type -/
noncomputable def tyV (K : PySem.W.Frag) (T : String) (x : V) (H : Hp) : Prop := match x with
  | .str _ => T = "str"
  | .int _ => T = "int"
  | .ref p => (T = "list" ∧ ∃ xs, SqL K H p xs) ∨ (T = "tuple" ∧ ∃ o, K.lookup p = some o ∧ o.cls = .type "tuple" ∧ o.dict = none) ∨
      (T = "dict" ∧ ((∃ kvs, H p = some (.dK kvs)) ∨ ∃ kvs, H p = some (.dT kvs))) ∨ (T = "set" ∧ ∃ S n, H p = some (.set S n))
  | _ => False
theorem tyV_is {pins : List (Addr × Obj)} {σ : St} {H : Hp} {s : Shared} {T : String} {x : V} {v : Value} (I : Inv X pins σ H s) (r : RelV x v) (ty : tyV X.K T x H) :
    s.TypeIs v T ∧ ∀ a, v = .ref a → ∃ ob, s.heap.get? a = some ob ∧ ob.dict = none := by
  cases x with
  | str z =>
    obtain ⟨t, rfl⟩ := r
    cases (show T = "str" from ty)
    exact ⟨typeIs_str s z t, fun _ e => nomatch e⟩
  | int i =>
    obtain ⟨t, rfl⟩ := r
    cases (show T = "int" from ty)
    exact ⟨typeIs_int s i t, fun _ e => nomatch e⟩
  | ref p =>
    cases r
    rcases ty with ⟨rfl, xs, hq⟩ | ⟨rfl, o, hk, hc, hd⟩ | ⟨rfl, hk⟩ | ⟨rfl, S, n, hk⟩
    · obtain ⟨its, _, pl, _⟩ := I.list hq
      refine ⟨pl.isList.typeIs, fun a e => ?_⟩
      cases e
      obtain ⟨o, n, e, c, hd, _⟩ := pl
      exact ⟨o, e, hd⟩
    · refine ⟨⟨o, I.kIn p o hk, hc⟩, fun a e => ?_⟩
      cases e
      exact ⟨o, I.kIn _ o hk, hd⟩
    · have z : ∃ o, s.heap.get? p = some o ∧ o.ExactDict := by
        rcases hk with ⟨kvs, hk⟩ | ⟨kvs, hk⟩
        · obtain ⟨_, _, _, _, o, _, _, e, ex, _⟩ := I.hok p _ hk
          exact ⟨o, e, ex⟩
        · obtain ⟨_, _, _, _, o, _, _, e, ex, _⟩ := I.hok p _ hk
          exact ⟨o, e, ex⟩
      obtain ⟨o, e, ex⟩ := z
      refine ⟨⟨o, e, ex.1⟩, fun a e2 => ?_⟩
      cases e2
      exact ⟨o, e, ex.2.1⟩
    · obtain ⟨o, _, _, _, e, ex, _⟩ := I.hok p _ hk
      refine ⟨⟨o, e, ex.1⟩, fun a e2 => ?_⟩
      cases e2
      exact ⟨o, e, ex.2.1⟩
  | _ => exact False.elim ty
noncomputable def tBM (K : PySem.W.Frag) (T : String) (r : V → List V → Hp → VK → Prop) (to : TE) (t : TA) : TE := fun σ H Q => to σ H fun x H1 => tyV K T x H1 ∧ t σ H1 fun xs H2 => r x xs H2 Q
variable {o e : Expr} {es : List Expr} {to : TE} {t : TA} {name : Str} {apos cpos : Pos} {T id : String} {r : V → List V → Hp → VK → Prop}
theorem pe_bm (pa : PlainAttrs T) (slot : Slot T name id) (hty : typeOf (.builtin id) = pure (.type "method_descriptor")) (hm : MtR X id r) (ho : PE X o to) (ha : PA X (e :: es) t)
    (hbase : attributeBase o name X.env (eval o X.env) = eval o X.env := by rfl)
    (hfew : ((backTo cpos (starEach (e :: es) X.env)).all (fun x => !x.1) && (backToKw cpos (keywordEach [] X.env)).all (fun x => x.1.isSome)
      && decide ((e :: es).length + ([] : List Keyword).length + (if ([] : List Keyword).isEmpty then 0 else 1) < 30)) = true := by rfl)
    (hline : (apos.endLine == cpos.line) = true := by rfl) (hs : starEach (e :: es) X.env = (false, eval e X.env) :: starEach es X.env := by rfl) (hplain : (backTo cpos (starEach es X.env)).any (·.1) = false := by rfl) :
    PE X (.Call (.Attribute o name apos) (e :: es) [] cpos) (tBM X.K T r to t) := by
  intro pins s σ H Q I h
  refine wpAny_Call_method_late hbase hfew hline rfl (thn (ho pins s σ H _ I h) fun v s1 ⟨x, H1, I1, r1, ty, q1⟩ => ?_)
  obtain ⟨h1, h2⟩ := tyV_is I1 r1 ty
  refine ⟨T, id, pa, slot, hty, h1, h2, ?_⟩
  have hA := ha cpos pins s1 σ H1 _ I1 q1
  rw [hs] at hA ⊢
  refine Calls.callWith_builtin (by show (false || (backTo cpos (starEach es X.env)).any (·.1)) = false; rw [hplain] <;> rfl) (Calls.evalArgs_plain ?_)
  exact thn hA fun us s2 ⟨vs, H2, I2, r2, q2⟩ => hm pins s2 σ H2 x vs v us Q I2 r1 r2 q2
/- xs.append(e), list.index on a module's tuple .. are MtR facts of 06m -/
end
end L2

namespace L2
open PySem PySem.Spec PyProof.Rows

noncomputable def MtM (X : Cx) (id : String) (r : V → List V → Hp → VK → Prop) : Prop :=
  ∀ (pins : List (Addr × Obj)) (s : Shared) (σ : St) (H : Hp) (x : V) (xs : List V) (v : Value) (us : List Value) (Q : VK), Inv X pins σ H s → RelV x v → Vals xs us → r x xs H Q →
    wpAny (model X.prog X.w) X.A (call (.builtin id) (v :: us)) (EP X pins σ Q) X.xe s

/-! ### lists of values -/
theorem Vals.one : ∀ {x : V} {us : List Value}, Vals [x] us → ∃ u, us = [u] ∧ RelV x u
  | _, _, .cons r .nil => ⟨_, rfl, r⟩
theorem Vals.two {x y : V} {us : List Value} (h : Vals [x, y] us) : ∃ u v, us = [u, v] ∧ RelV x u ∧ RelV y v := by
  cases h with
  | cons r t =>
  cases t with
  | cons q t =>
  cases t
  exact ⟨_, _, rfl, r, q⟩
theorem Vals.zero : ∀ {us : List Value}, Vals [] us → us = []
  | _, .nil => rfl
theorem Vals.dropLast {xs : List V} {us : List Value} (h : Vals xs us) : Vals xs.dropLast us.dropLast := by
  induction h with
  | nil => exact .nil
  | cons r t ih =>
    cases t with
    | nil => exact .nil
    | cons q t' => exact .cons r ih
theorem Vals.reverse {xs : List V} {us : List Value} (h : Vals xs us) : Vals xs.reverse us.reverse := by
  induction h with
  | nil => exact .nil
  | cons r t ih => rw [List.reverse_cons, List.reverse_cons]; exact Vals.append ih (.cons r .nil)
theorem Vals.rep {xs : List V} {us : List Value} (h : Vals xs us) : ∀ k : Nat, Vals (List.replicate k xs).flatten (List.replicate k us).flatten
  | 0 => .nil
  | k + 1 => by
    rw [List.replicate_succ, List.replicate_succ, List.flatten_cons, List.flatten_cons]
    exact Vals.append h (Vals.rep h k)
theorem foldl_rep (its : List Value) : ∀ (k : Nat) (acc : List Value),
    List.foldl (fun x1 x2 => x1 ++ x2) acc.toArray (List.replicate k its.toArray) = (acc ++ (List.replicate k its).flatten).toArray
  | 0, acc => by simp
  | k + 1, acc => by
    have e : acc.toArray ++ its.toArray = (acc ++ its).toArray := by simp
    have e2 : (acc ++ its) ++ (List.replicate k its).flatten = acc ++ (List.replicate (k + 1) its).flatten := by
      rw [List.replicate_succ, List.flatten_cons, List.append_assoc]
    rw [← e2, ← foldl_rep its k (acc ++ its), ← e, List.replicate_succ, List.foldl_cons]

section
variable {X : Cx} {pins : List (Addr × Obj)} {σ : St} {H : Hp} {s : Shared} {l b : Addr} {xs ys zs : List V}

/-! ### the two steps: a tracked list is rewritten, a new list is laid -/
theorem Inv.lset {its its' : List Value} {n : Nat} {f : Array Value → Array Value} {t' : Nat} (I : Inv X pins σ H s) (hH : H l = some (.lst xs))
    (e : s.heap.get? l = some { cls := .type "list", data := .seq its.toArray n }) (hf : f its.toArray = its'.toArray) (hv : Vals ys its') (hz : ys.length ≤ sizeLine) :
    Inv X pins σ (upd H l (.lst ys)) { s with heap := s.heap.update l (Obj.mapSeq f), toks := t' } := by
  have q := PySem.IsL.update e f
  rw [hf] at q
  refine I.write (x := l) (e := l) (by rw [hH]; exact trivial) (.inl rfl) (fun b' u hb hu => (Heap.get?_update_other s.heap (Obj.mapSeq f) (Ne.symm hb)).trans hu) ⟨_, q⟩ ?_
  exact ⟨hz, its', _, hv, q⟩
theorem Inv.lnew {its : List Value} {t' : Nat} (I : Inv X pins σ H s) (hv : Vals ys its) (hz : ys.length ≤ sizeLine) :
    Inv X pins σ (upd H s.heap.objs.size (.lst ys)) { s with heap := s.heap.push { cls := .type "list", data := .seq its.toArray }, toks := t' } :=
  I.laid (fun _ _ q => Heap.get?_push_of_some _ q) (Nat.le_refl _) ⟨hz, its, 0, hv, Heap.get?_push_size _ rfl⟩
theorem Inv.fresh (I : Inv X pins σ H s) : H s.heap.objs.size = none := I.hok.fresh (Nat.le_refl _)
theorem Inv.lstM (I : Inv X pins σ H s) (hH : H l = some (.lst xs)) : xs.length ≤ sizeLine ∧ ∃ (its : List Value) (n : Nat), Vals xs its ∧ xs.length = its.length ∧ s.heap.get? l = some { cls := .type "list", data := .seq its.toArray n } := by
  obtain ⟨z, its, n, r, e⟩ := I.hok l _ hH
  exact ⟨z, its, n, r, r.length, e⟩

theorem notLongL {n : Nat} (h : n ≤ sizeLine) : Builtin.List.listTooLong n = false := by
  unfold Builtin.List.listTooLong
  exact decide_eq_false (by omega)
end

section
variable {X : Cx}

/-! ### methods -/
noncomputable def rAppend : V → List V → Hp → VK → Prop := fun x vs H Q => ∃ l xs y, x = .ref l ∧ vs = [y] ∧ H l = some (.lst xs) ∧ xs.length < sizeLine ∧ Q .non (upd H l (.lst (xs ++ [y])))
theorem mt_append : MtM X "list.append" rAppend := by
  intro pins s σ H x vs v us Q I rx rv h
  obtain ⟨l, xs, y, rfl, rfl, hH, hz, q⟩ := h
  cases rx
  obtain ⟨u, rfl, ru⟩ := rv.one
  obtain ⟨z, its, n, r, hl, e⟩ := I.lstM hH
  refine call_meets F.slot_list_append ⟨_, e, rfl⟩ F.entry_list_append (F.args_list_append_2 _ _) (PySem.list_append l its.toArray n u (by rw [List.size_toArray]; omega)) ⟨e, ?_⟩
  refine ⟨.non, _, I.lset (its' := its ++ [u]) hH e (by simp) (r.append (.cons ru .nil)) ?_, rfl, q⟩
  rw [List.length_append, List.length_singleton]
  omega

noncomputable def rExtend : V → List V → Hp → VK → Prop := fun x vs H Q => ∃ l b xs zs, x = .ref l ∧ vs = [.ref b] ∧ H l = some (.lst xs) ∧ H b = some (.lst zs) ∧ xs.length + zs.length ≤ sizeLine ∧ Q .non (upd H l (.lst (xs ++ zs)))
theorem mt_extend : MtM X "list.extend" rExtend := by
  intro pins s σ H x vs v us Q I rx rv h
  obtain ⟨l, b, xs, zs, rfl, rfl, hH, hB, hz, q⟩ := h
  cases rx
  obtain ⟨u, rfl, ru⟩ := rv.one
  cases ru
  obtain ⟨z, its, n, r, hl, e⟩ := I.lstM hH
  obtain ⟨z2, its2, n2, r2, hl2, e2⟩ := I.lstM hB
  have hsz : its.toArray.size + its2.toArray.size ≤ sizeLine := by rw [List.size_toArray, List.size_toArray]; omega
  have hlong : ¬ (!its.toArray.isEmpty && Builtin.List.listTooLong (its.toArray.size + its2.toArray.size)) = true := by
    rw [notLongL hsz, Bool.and_false]
    exact Bool.false_ne_true
  refine call_meets F.slot_list_extend ⟨_, e, rfl⟩ F.entry_list_extend (F.args_list_extend_2 _ _)
    (AutoSeq1.list_extend_list_list_0 l its.toArray n b its2.toArray n2 hlong (by rw [List.size_toArray]; omega) (by omega)) ⟨e, e2, ?_⟩
  refine ⟨.non, _, I.lset (its' := its ++ its2) hH e (by simp) (r.append r2) ?_, rfl, q⟩
  rw [List.length_append]
  omega





/-! ### list + list, list += list, list * int -/
noncomputable def rCat : R2 := fun x y H Q => ∃ l b xs zs, x = .ref l ∧ y = .ref b ∧ H l = some (.lst xs) ∧ H b = some (.lst zs) ∧ xs.length + zs.length ≤ sizeLine ∧ ∀ p, H p = none → Q (.ref p) (upd H p (.lst (xs ++ zs)))
theorem op_cat : OpR X (binaryOp .Add) rCat := by
  intro pins s σ H x y v u Q I rx ry h
  obtain ⟨l, b, xs, zs, rfl, rfl, hH, hB, hz, q⟩ := h
  cases rx
  cases ry
  obtain ⟨z, its, n, r, hl, e⟩ := I.lstM hH
  obtain ⟨z2, its2, n2, r2, hl2, e2⟩ := I.lstM hB
  refine PySem.P.add_list e e2 ?_ (by rw [List.size_toArray, List.size_toArray]; omega)
  have ea : its.toArray ++ its2.toArray = (its ++ its2).toArray := by simp
  rw [ea]
  exact ⟨.ref _, _, I.lnew (t' := s.toks) (r.append r2) (by rw [List.length_append]; omega), rfl, q _ I.fresh⟩
/-- a list times an int (a negative one is nothing) -/
noncomputable def rRep : R2 := fun x y H Q => ∃ l k xs, x = .ref l ∧ y = .int k ∧ H l = some (.lst xs) ∧ -(2 ^ 63) ≤ k ∧ k < 2 ^ 63 ∧ xs.length * k.toNat ≤ sizeLine ∧
  ∀ p, H p = none → Q (.ref p) (upd H p (.lst (List.replicate k.toNat xs).flatten))
theorem len_rep {α : Type} (xs : List α) (k : Nat) : (List.replicate k xs).flatten.length = k * xs.length := by
  induction k with
  | zero => simp
  | succ k ih => rw [List.replicate_succ, List.flatten_cons, List.length_append, ih, Nat.succ_mul, Nat.add_comm]
theorem op_rep : OpR X (binaryOp .Mult) rRep := by
  intro pins s σ H x y v u Q I rx ry h
  obtain ⟨l, k, xs, rfl, rfl, hH, h1, h2, hz, q⟩ := h
  cases rx
  obtain ⟨t, rfl⟩ := ry
  obtain ⟨z, its, n, r, hl, e⟩ := I.lstM hH
  have hlen : its.toArray.size * k.toNat ≤ sizeLine := by rw [List.size_toArray, ← hl]; exact hz
  have hcap : ¬ its.toArray.size * k.toNat > (2 ^ 63 - 1) / 8 := by
    have : (sizeLine : Nat) ≤ (2 ^ 63 - 1) / 8 := by decide
    omega
  have hfit : ¬ (!Builtin.List.listFitsIndex k) = true := by
    rw [fitsIndex_both h1 h2]
    exact Bool.false_ne_true
  have hlong : ¬ Builtin.List.listTooLong (its.toArray.size * k.toNat) = true := by
    rw [notLongL hlen]
    exact Bool.false_ne_true
  have hnew : List.foldl (fun x1 x2 => x1 ++ x2) #[] (List.replicate (if its.toArray.isEmpty = true then 0 else k.toNat) its.toArray) = (List.replicate k.toNat its).flatten.toArray := by
    have f0 : ∀ m : Nat, List.foldl (fun x1 x2 => x1 ++ x2) #[] (List.replicate m its.toArray) = (List.replicate m its).flatten.toArray := fun m => by
      have := foldl_rep its m []
      rw [List.nil_append] at this
      exact this
    rw [f0]
    cases its with
    | nil => simp
    | cons a r' => rw [if_neg (by simp)]
  refine wpAny_binaryOp_repeat_ref (T := "list") (U := "int") (by decide) ⟨_, e, rfl⟩ (fun s' => typeIs_int s' k t) noFill_list_mul F.fills_int_mul F.slot_int_rmul repeat_list F.slot_int_index.lookup
    (call_meets F.slot_int_rmul (typeIs_int s k t) F.entry_int_rmul (F.args_int_rmul_2 _ _) (int___rmul___int_list k t l its.toArray n)
      ⟨e, rfl, ⟨_, e, rfl⟩, call_meets F.slot_list_mul ⟨_, e, rfl⟩ F.entry_list_mul (F.args_list_mul_2 _ _) (AutoListH.list___mul___list_int_3 l its.toArray n k t hfit hcap hlong) ⟨e, ?_⟩⟩)
  rw [hnew]
  exact ⟨.ref _, _, I.lnew (t' := s.toks) (r.rep k.toNat) (by rw [len_rep, Nat.mul_comm]; exact hz), rfl, q _ I.fresh⟩

/-! ### del xs[i] -/
end

/-! ### xs[a:b] = ys -/
section
variable {prog : Program} {w : World} {A : Around} {E : Value → Shared → Prop} {s : Shared}
set_option maxRecDepth 100000 in
end

section
variable {X : Cx}
end
end L2

namespace Att
open PySem PySem.W PySem.Calls PyProof.Rows

/-! ### the script -/
theorem ints_of_wellAll {P : Params} {h : Heap} : ∀ (ns : List Int) (vs : List Value), WellAll P h vs (ns.map WData.int) → IntsAre vs ns := by
  intro ns
  induction ns with
  | nil =>
    intro vs w
    rw [List.map_nil] at w
    cases w
    exact .nil
  | cons n ns ih =>
    intro vs w
    rw [List.map_cons] at w
    cases w with
    | cons a b =>
      cases a
      exact .cons _ _ (ih _ b)

theorem script_of {l : OpenLaw} {n : Nat} (hn : l.most = some n) {P : Params} {h : Heap} {args : List WData} {vals : List Value}
    (hpre : l.row.toRowW.claim.pre args = true) (hwl : WellAll P h vals args) :
    ∃ a vs ns, vals = [Value.ref a] ∧ args = [WData.list (ns.map WData.int)] ∧ h.get? a = some { cls := .type "list", data := .seq vs.toArray } ∧ IntsAre vs ns ∧ ns.length ≤ n := by
  have hsh : WShape.hasAll [] args [.list .int] = true := (pre_splitW hpre).1
  have hc : l.pre.holds [] { args := args } = true := (pre_splitW hpre).2
  obtain ⟨d, r, rfl, h1, h2⟩ := hasAllW_cons hsh
  obtain rfl := hasAllW_nil h2
  obtain ⟨xs, rfl, h3⟩ := hasW_list h1
  obtain ⟨ns, rfl⟩ := items_int h3
  have hlen : ns.length ≤ n := by
    unfold OpenLaw.pre at hc
    have h4 : (WTm.not (.lt (.lit (.int (n : Int))) (.len (.arg 0)))).holds [] { args := [.list (ns.map .int)] } = true := by
      have h4 := (holds_andW hc).1
      rw [hn] at h4
      exact h4
    have h5 := condW_of h4 (w_not (w_lt w_lit (w_len_list (w_arg rfl))))
    rw [List.length_map] at h5
    refine Nat.le_of_not_lt fun q => ?_
    have q' : (n : Int) < ((ns.length : Nat) : Int) := by omega
    first
      | (rw [decide_eq_true q'] at h5; exact absurd h5 (by decide))
      | (simp at h5; omega)
  cases hwl with
  | cons w1 w2 =>
    cases w2
    cases w1 with
    | list ho hall => exact ⟨_, _, ns, rfl, rfl, ho, ints_of_wellAll ns _ hall, hlen⟩

theorem post_true (l : OpenLaw) (args : List WData) : l.row.toRowW.claim.post args (.bool true) args = true :=
  postW_of (r := l.row.toRowW) (X := (true == true))
    (show WShape.has [] (.bool true) .bool = true by first | rfl | decide | simp [WShape.has, WShape.arms, WShape.armsAll])
    (show (WTm.eq .res (.lit (.bool true))).value [] { args := args, res := some (.bool true), after := args } = some (.bool (true == true)) from w_eq_bool (w_res rfl) w_lit) rfl

/-! ### the attachment: holds_open's last premise (the goal 'hc' behind k_head) from a wpAny of the law's body -/

/-- the same from a codeAny of the CALL (for a layer whose function contracts speak of calls) -/
theorem attach_call {l : OpenLaw} {n : Nat} {q : Program} {loose : List Str} {XP : (Str → Option Value) → Heap → Prop} {YP : World → Heap → Prop} {d : DefRec}
    (hn : l.most = some n) (hdf : d.params.defaults = [])
    (call : ∀ (w : World) (s₀ s₁ : Shared) (mg mb : Str → Option Value) (fa : Addr) (o : Obj) (pm cd doc : Value) (a : Addr) (vs : List Value) (ns : List Int),
      Ground q loose [] XP w s₀ mg mb s₁.heap → YP w s₁.heap →
      s₁.heap.get? fa = some o → o.data = .func (docDef d.name d.params d.body d.scope pm cd doc) → s₁.heap.CodeRec cd d.name → mg d.name = some (.ref fa) →
      s₁.heap.get? a = some { cls := .type "list", data := .seq vs.toArray } → IntsAre vs ns → ns.length ≤ n → s₁.gens = #[] →
      codeAny (model l.prog w) callerA (.call (.ref fa) ⟨[.ref a], []⟩) (fun r s' => r = .ok (.ret (.bool true)) ∧ OldK s₁.heap s'.heap ∧ s'.os = s₁.os ∧ AllBare s'.gens) s₁) :
    WalkO q loose XP YP l.row.toRowW d [] (fun f vs => PySem.call f vs) := by
  intro w s₀ s₁ mg mb G Y fa o pm cd doc dV kV ho hd hcd hD hmg hg args vals as hpre hlay hrd hwl hlo
  obtain rfl : dV = .none := Dflts.none hD hdf
  obtain rfl : kV = .none := Dflts.noKw hD
  obtain ⟨a, vs, ns, rfl, rfl, hobj, hints, hlen⟩ := script_of hn hpre hwl
  refine enter_call (codeAny_mono (call w s₀ s₁ mg mb fa o pm cd doc a vs ns G Y ho (fd_plain hd) hcd hmg hobj hints hlen hg) fun r s' hq => ?_)
  obtain ⟨rfl, h2, h3, h4⟩ := hq
  exact ⟨.inl ⟨.bool true, .bool true, [], rfl, fun _ => rfl, .bool true, post_true l _, fun _ => ⟨List.Pairwise.nil, fun _ hm => (nomatch hm)⟩⟩, h2, h3, h4⟩


/-! ### rules over ANY heap (no ledger) from facts about the written part K: the library's own take a ledger (News) for what they write -/
section
variable {prog : Program} {w : World} {A : Around} {E : Value → Shared → Prop} {s : Shared} {K : Frag}





/-! the whole heap as the ledger: makes every rule that writes through a ledger a rule over any heap -/

end
end Att

namespace L2
open PySem PySem.Spec PyProof.Rows

theorem vals_ints : ∀ {vs : List Value} {ns : List Int}, IntsAre vs ns → Vals (ns.map V.int) vs
  | _, _, .nil => .nil
  | _, _, .cons n t h => .cons ⟨t, rfl⟩ (vals_ints h)

/-- nothing is tracked but the script, known to the object (or it is an object of the module) -/
noncomputable def Only (H : Hp) : Prop := ∀ b, H b = none ∨ ∃ o xs, H b = some (.frz o (.lst xs))

/-- THE HEAD: the law's promise, at the heap behind the top. F, the promise of the law's def, may use that base is part of the heap (so K.In base, base.Ns mainGlobals mg stand in Mod) -/
theorem law_call {P : Program} {w : World} {K : PySem.W.Frag} {mg mb : Str → Option Value} {CX : CXT} {k : Nat} {fa a : Addr} {fd : FuncData} {x : Str} {sp : Sp} {s₁ : Shared} {vs : List Value} {ns : List Int}
    (KX : K.In s₁.heap) (hns : s₁.heap.Ns mainGlobals mg) (hb : s₁.heap.Ns builtinsNs mb) (hbb : ∀ x : Str, x ≠ "__name__" → mb x = bootBuiltins x) (hlim : s₁.heap.NoLimit) (hg : s₁.gens = #[])
    (ha : s₁.heap.get? a = some { cls := .type "list", data := .seq vs.toArray }) (hi : IntsAre vs ns) (hl : ns.length ≤ sizeLine) (hr : Room k callerA)
    (F : ∀ base : Heap, K.In base → base.Ns mainGlobals mg → FnOk P w K mg base CX k fa fd [x] sp) (hbind : ∀ (s : Shared) (u : Value), BindsTo s fd ⟨[u], []⟩ [(x, u)])
    (hsp : ∀ H : Hp, Only H → SqL K H a (ns.map V.int) → sp [.ref a] H (fun v _ => v = .bl true) fun _ _ _ => False)
    (hCX : ∀ H e s', CX [] H s₁ (fun _ _ _ => False) e s' → False) :
    codeAny (model P w) callerA (.call (.ref fa) ⟨[.ref a], []⟩) (fun r s' => r = .ok (.ret (.bool true)) ∧ OldK s₁.heap s'.heap ∧ s'.os = s₁.os ∧ AllBare s'.gens) s₁ := by
  have rv := vals_ints hi
  have lenV := hi.length
  -- from an abstract heap in which nothing but the script may be tracked
  have core : ∀ H : Hp, Only H → SqL K H a (ns.map V.int) → HOk P w H s₁.heap → (∀ b, H b ≠ none → b = a) → (H a ≠ none → K.lookup a = none) →
      codeAny (model P w) callerA (.call (.ref fa) ⟨[.ref a], []⟩) (fun r s' => r = .ok (.ret (.bool true)) ∧ OldK s₁.heap s'.heap ∧ s'.os = s₁.os ∧ AllBare s'.gens) s₁ := by
    intro H hO hS hok hA hK
    have base_of : ∀ {b : Addr} {o : Obj}, s₁.heap.get? b = some o → H b = none → (hidT s₁.heap H).get? b = some o := fun e n => hidT_get e n
    have noA : ∀ {b : Addr} {o : Obj} {es : Array DictEntry} {ep : Nat}, s₁.heap.get? b = some o → o.data = .dict es ep → H b = none := fun {b o es ep} e d => by
      cases q : H b with
      | none => rfl
      | some u =>
        have e' : b = a := hA b (by rw [q]; simp)
        subst e'
        rw [ha] at e; cases e
        have d' : Data.seq vs.toArray _ = Data.dict es ep := d
        cases d'
    have nsK : ∀ {b : Addr} {m : Str → Option Value}, s₁.heap.Ns b m → (hidT s₁.heap H).Ns b m := fun {b m} ⟨o, es, ep, e, d, r⟩ => ⟨o, es, ep, base_of e (noA e d), d, r⟩
    have hKb : K.In (hidT s₁.heap H) := fun b o e => base_of (KX b o e) (by
      cases q : H b with
      | none => rfl
      | some u =>
        have e' : b = a := hA b (by rw [q]; simp)
        subst e'
        rw [hK (by rw [q]; simp)] at e; cases e)
    have hM : Mod K mg (hidT s₁.heap H) := ⟨hKb, nsK hns, ⟨mb, nsK hb, hbb⟩, let ⟨mc, h1, h2⟩ := hlim; ⟨mc, nsK h1, h2⟩⟩
    have e0 : Env0 P w K mg (hidT s₁.heap H) callerA [] s₁ H := ⟨rfl, hM, fun b o e => of_hidT e, Nat.le_of_eq (hidT_size _ _), trivial, fun b hb => absurd (show b ∈ ([] : List Addr) from hb) (by simp), hok, .of_eq hg⟩
    refine codeAny_mono ((F _ hKb (nsK hns)).run callerA [] s₁ H ⟨[.ref a], []⟩ [.ref a] [.ref a] _ _ hr e0 (hbind s₁ (.ref a)) (.cons rfl .nil) (hsp H hO hS)) fun r s' h => ?_
    cases r with
    | error e => exact (hCX H e s' h).elim
    | ok fl =>
      cases fl with
      | next => exact False.elim h
      | brk => exact False.elim h
      | cont => exact False.elim h
      | ret u =>
        obtain ⟨v, H', os, bare, un, hok', r', q⟩ := h
        have q' : v = .bl true := q
        subst q'
        obtain rfl : u = Value.bool true := r'
        refine ⟨rfl, OldK.of_keep fun b o e => ?_, os, bare⟩
        cases q : H b with
        | none => exact un.keep b o e q (by intro z; exact absurd (show b ∈ ([] : List Addr) from z) (by simp)) (by simp)
        | some u =>
          rcases hO b with z | ⟨ob, xs, z⟩
          · rw [q] at z; cases z
          · have z2 := un.frzs b ob _ z
            obtain ⟨e1, _⟩ := hok b _ z
            obtain ⟨e2, _⟩ := hok' b _ z2
            rw [e] at e1; cases e1
            exact e2
  cases hk : K.lookup a with
  | some o =>
    -- the script is one of the module's own objects
    have e := KX a o hk
    rw [ha] at e
    cases e
    refine core (fun _ => none) (fun _ => .inl rfl) (.inr ⟨_, vs.toArray, _, hk, rfl, rfl, rfl, by rw [List.size_toArray, lenV]; exact hl, by simpa using rv⟩) (fun b u z => by have z' : (none : Option HO) = some u := z; cases z') (fun b z => absurd rfl z) fun z => absurd rfl z
  | none =>
    refine core (fun b => if b = a then some (.frz { cls := .type "list", data := .seq vs.toArray } (.lst (ns.map V.int))) else none) (fun b => ?_) (.inl (.inr ⟨{ cls := .type "list", data := .seq vs.toArray }, if_pos rfl⟩)) (fun b u z => ?_) (fun b z => ?_) fun _ => hk
    · by_cases hb : b = a
      · exact .inr ⟨_, _, if_pos hb⟩
      · exact .inl (if_neg hb)
    · by_cases hb : b = a
      · have z' := (if_pos hb).symm.trans z
        cases z'
        subst hb
        exact ⟨ha, by rw [List.length_map]; exact hl, vs, _, rv, ha⟩
      · have z' := (if_neg hb).symm.trans z
        cases z'
    · by_cases hb : b = a
      · exact hb
      · exact absurd (if_neg hb) z
end L2

namespace L2
open PySem PySem.Spec PyProof.Rows

noncomputable abbrev KOf {K : PySem.W.Frag} {h : Heap} (_ : K.In h) : PySem.W.Frag := K

/-- the goal that k_head leaves (case hc), from the law's promise. F gives the function object fd (K's own) once, then the promise over every base -/
theorem walk_of {l : PySem.W.OpenLaw} {n k : Nat} {q : Program} {loose : List Str} {XP : (Str → Option Value) → Heap → Prop} {YP : World → Heap → Prop} {d : DefRec} {K : Params → PySem.W.Frag} {CX : World → CXT} {sp : World → Sp} {x : Str}
    (hn : l.most = some n) (hn2 : n ≤ sizeLine) (hdf : d.params.defaults = []) (hr : Room k callerA)
    (hY : ∀ (w : World) (h : Heap), YP w h → (K w.params).In h)
    (F : ∀ (w : World) (mg : Str → Option Value) (fa : Addr) (h : Heap), (K w.params).In h → h.Ns mainGlobals mg → mg d.name = some (.ref fa) →
      ∃ fd : FuncData, (∀ (s : Shared) (u : Value), BindsTo s fd ⟨[u], []⟩ [(x, u)]) ∧
        ∀ base : Heap, (K w.params).In base → base.Ns mainGlobals mg → FnOk l.prog w (K w.params) mg base (CX w) k fa fd [x] (sp w))
    (hsp : ∀ (w : World) (H : Hp) (a : Addr) (ns : List Int), ns.length ≤ n → Only H → SqL (K w.params) H a (ns.map V.int) → sp w [.ref a] H (fun v _ => v = .bl true) fun _ _ _ => False)
    (hCX : ∀ (w : World) (H : Hp) (s : Shared) (e : Value) (s' : Shared), CX w [] H s (fun _ _ _ => False) e s' → False) :
    PySem.W.WalkO q loose XP YP l.row.toRowW d [] (fun f vs => PySem.call f vs) := by
  refine Att.attach_call hn hdf fun w s₀ s₁ mg mb fa o pm cd doc a vs ns G Y ho hd hcd hmg hobj hints hlen hg => ?_
  have KX := hY w _ Y
  obtain ⟨fd, hb, hF⟩ := F w mg fa _ KX G.T.g hmg
  exact law_call KX G.T.g G.T.b G.T.builtins G.T.nolimit hg hobj hints (Nat.le_trans hlen hn2) hr hF hb (fun H hO hS => hsp w H a ns hlen hO hS) fun H e s' => hCX w H s₁ e s'
end L2

/- THE LAST THEOREM (shape; LID, My.* are yours):
   My.Adr: a structure of the addresses that your layer names (classes, functions); My.Txt K t: a structure (Prop) of the equations over K;
   My.txt_mk : {K} {implicit addresses ..} (e1 : nsIn K mainGlobals "law" = some (some (.ref f))) (e2 : K.lookup f = some ⟨oc, od, .func (fnOf "law" "law" params body scope dV kV doc pm an cdv ct), sl⟩) (e3 : codeIn K cdv "law" = true) .. : ∃ t, My.Txt K t

set_option maxRecDepth 100000 in
set_option maxHeartbeats 0 in
theorem PySem.Challenge.cw_LID_holds : PySem.Challenge.rw_LID.Holds := by
  w_on; o_law; k_head; (case hw => w_witness2)
  k_fill
  refine L2.walk_of (l := PySem.Challenge.rw_LID) (n := 63) (k := 40) (x := "script") (CX := fun w => ..) (sp := fun _ => My.sp_law) rfl (by decide) rfl ⟨rfl, by decide, by decide⟩ (fun w h Y => PySem.W.kIn_of Y) ?F ?S ?C
  case F =>
    intro w mg fa h KX G hmg
    have T : ∃ t, My.Txt (L2.KOf KX) t := by
      dsimp only [L2.KOf]                          -- K must stand as «<heap const> w.params» for k_is
      refine' My.txt_mk ?e1 ?e2 ?e3 ..
      (case e1 => PySem.W.k_is)                    -- in the order: a name -> its address -> its object -> its parts
      (case e2 => PySem.W.k_is)
      ..
    obtain ⟨t, T⟩ := T
    have e0 := hmg.symm.trans (PySem.W.mg_of KX G T.law)
    cases e0                                       -- fa is the law's own address
    exact ⟨_, fun s u => .of_eq rfl, fun base kb nb => My.law_fn T kb nb⟩     -- if «.of_eq rfl» comes too early: refine' ⟨_, ?b, fun base kb nb => My.law_fn T kb nb⟩; exact fun s u => .of_eq rfl
  case S => exact fun w H a ns hl hO hS => ..
  case C => exact ..
(the tactic k_is has no namespace: write k_is) -/

/-! SHORT WORDS over the layer: a def of the text, its body, what a loop and a test want. -/
namespace L2
open PySem PySem.Spec PyProof.Rows

/-! ### the text by places -/
noncomputable def defArgs (s : Stmt) : Arguments := match s with
  | .FunctionDef _ a _ _ _ _ _ _ _ _ => a
  | _ => { posonlyargs := [], args := [], vararg := none, kwonlyargs := [], kw_defaults := [], kwarg := none, defaults := [] }
noncomputable def defBody (s : Stmt) : List Stmt := match s with
  | .FunctionDef _ _ b _ _ _ _ _ _ _ => b
  | _ => []
noncomputable def defScope (s : Stmt) : Scope := match s with
  | .FunctionDef _ _ _ _ _ _ sc _ _ _ => sc
  | _ => { kind := .function, names := [], isGenerator := false, isCoroutine := false }

/-! ### no exception leaves a def -/
noncomputable abbrev CX0 : CXT := fun _ _ _ _ _ _ => False
noncomputable abbrev E0 : XK := fun _ _ _ => False
theorem pass0 {X : Cx} : Passes CX0 X E0 := fun _ _ _ _ _ _ _ h => h.elim

/-! ### a def (or method) of the text as it stands behind the top -/
structure Fun (K : PySem.W.Frag) (x qual : Str) (st : Stmt) (f : Addr) (fd : FuncData) : Prop where
  ex : ∃ (oc : Value) (od : Option Addr) (kV doc pm : Value) (an : Option Addr) (cdv ct : Value) (osl : Array (Option Value)),
    fd = PySem.W.fnOf x qual (defArgs st) (defBody st) (defScope st) .none kV doc pm an cdv ct ∧ K.lookup f = some ⟨oc, od, .func fd, osl⟩ ∧ PySem.W.codeIn K cdv qual = true
  kp : PySem.W.keepIn K (.ref f) = true
section
variable {P : Program} {w : World} {K : PySem.W.Frag} {mg : Str → Option Value} {base : Heap}
/-- THE RULE for a def: its body as a term of rules, and the reading of that term -/
theorem Fun.ok {x qual : Str} {st : Stmt} {f : Addr} {fd : FuncData} {N ps : List Str} {k : Nat} {sp : Sp} (F : Fun K x qual st f fd) (S : FnScope N ps (defScope st)) (len : ∀ vs H Q E, sp vs H Q E → vs.length = ps.length)
    (hbody : ∀ (cdv : Value) (A : Around) (outer : List Env) (s : Shared) (H : Hp) (vs : List V) (Q : VK) (E : XK), Room k (A.deeper (envOfC qual (defScope st) s.heap.objs.size f cdv)) → sp vs H Q E →
      ∃ t, PSs (cxOf CX0 P w K mg base N qual (defScope st) f cdv A outer s H E).nox (defBody st) t ∧ t { nx := fun _ H' => Q .non H', rt := Q } (start N vs) H) : FnOk P w K mg base CX0 (k + 1) f fd ps sp := by
  obtain ⟨oc, od, kV, doc, pm, an, cdv, ct, osl, rfl, lk, hcd⟩ := F.ex
  refine fn_of lk hcd S len fun A outer s H vs Q E hr hsp => ?_
  obtain ⟨t, h, q⟩ := hbody cdv A outer s H vs Q E hr hsp
  exact ⟨t, h.nox, q⟩
/-- how its arguments bind (no defaults): h is «fun _ _ _ _ _ _ us hl => match us, hl with | [_, _], _ => rfl», one _ a parameter -/
theorem Fun.binds {x qual : Str} {st : Stmt} {f : Addr} {fd : FuncData} {ps : List Str} (F : Fun K x qual st f fd)
    (h : ∀ (kV doc pm : Value) (an : Option Addr) (cdv ct : Value) (us : List Value), us.length = ps.length → bindArgs (PySem.W.fnOf x qual (defArgs st) (defBody st) (defScope st) .none kV doc pm an cdv ct) ⟨us, []⟩ = pure (ps.zip us)) : Binds K fd ps [] := by
  obtain ⟨oc, od, kV, doc, pm, an, cdv, ct, osl, rfl, lk, hcd⟩ := F.ex
  exact .all (h kV doc pm an cdv ct)
theorem fun_mk {x qual : Str} {st : Stmt} {f : Addr} {oc : Value} {od an : Option Addr} {osl : Array (Option Value)} {kV doc pm cdv ct : Value} (l : K.lookup f = some ⟨oc, od, .func (PySem.W.fnOf x qual (defArgs st) (defBody st) (defScope st) .none kV doc pm an cdv ct), osl⟩)
    (c : PySem.W.codeIn K cdv qual = true) (k : PySem.W.keepIn K (.ref f) = true) : Fun K x qual st f (PySem.W.fnOf x qual (defArgs st) (defBody st) (defScope st) .none kV doc pm an cdv ct) := ⟨⟨oc, od, kV, doc, pm, an, cdv, ct, osl, rfl, l, c⟩, k⟩
end
theorem small1000 {n : Nat} (h : n ≤ 1000) : n < sizeLine := Nat.lt_of_le_of_lt h (by decide)

/-! ### expressions in short: the name that stands in the i-th slot -/
section
variable {X : Cx}
theorem pv (i : Nat) {x : Str} {pos : Pos} (hN : X.N[i]? = some x := by rfl) (hv : Vis X.env.scope x := by first | exact Or.inl rfl | exact Or.inr (Or.inl rfl) | exact Or.inr (Or.inr rfl)) (hd : (x == ("__debug__" : Str)) = false := by decide)
    (hcd : (x == ("__classdict__" : Str)) = false := by decide) : PE X (.Name x pos) (tVar i) := pe_var hN hv hd hcd
end

/-! ### tests -/
theorem iteF {A B : Prop} (h : B) : if false = true then A else B := by
  rw [if_neg Bool.false_ne_true]
  exact h
theorem iteT {A B : Prop} (h : A) : if true = true then A else B := by
  rw [if_pos rfl]
  exact h

/-! ### heaps -/
/-- all that was tracked is as it was -/
noncomputable def Same (H H' : Hp) : Prop := ∀ b o, H b = some o → H' b = some o
theorem Same.refl (H : Hp) : Same H H := fun _ _ h => h
theorem Same.trans {H H1 H2 : Hp} (a : Same H H1) (b : Same H1 H2) : Same H H2 := fun c o h => b c o (a c o h)
theorem Same.free {H H' : Hp} (e : Same H H') {l : Addr} (h : H' l = Option.none) : H l = Option.none := by
  cases q : H l with
  | none => rfl
  | some o =>
    rw [e l o q] at h
    cases h
theorem Same.seq {K : PySem.W.Frag} {H H' : Hp} {a : Addr} {xs : List V} (e : Same H H') (h : SqL K H a xs) : SqL K H' a xs := by
  rcases h with (h | ⟨o, h⟩) | h
  · exact .inl (.inl (e _ _ h))
  · exact .inl (.inr ⟨o, e _ _ h⟩)
  · exact .inr h

end L2

set_option Elab.async false
set_option linter.all false
set_option maxRecDepth 100000
namespace L2
open PySem PySem.Spec PyProof.Rows

/-! ### the cells that a comprehension's block takes from its frame -/
noncomputable def closL (env : Env) : List (Str × NameKind) → List (Str × Addr) → List (Str × Addr)
  | [], cs => cs
  | (n, k) :: r, cs => closL env r (if k == .free then (match env.cells.lookup n with | some a => (n, a) :: cs | none => cs) else cs)
/-- the names of a block: none is a cell of its own, each free one is a cell or free in the frame -/
noncomputable def FrOk (env : Env) : List (Str × NameKind) → Prop
  | [] => True
  | (n, k) :: r => (match k with | .free => (env.kindOf n = some .cell ∨ env.kindOf n = some .free) | .cell => False | _ => True) ∧ FrOk env r
theorem FrOk.free {env : Env} : ∀ {ns : List (Str × NameKind)} {n : Str}, FrOk env ns → (n, NameKind.free) ∈ ns → env.kindOf n = some .cell ∨ env.kindOf n = some .free
  | [], _, _, h => by cases h
  | (m, k) :: r, n, f, h => by
    obtain ⟨a, b⟩ := f
    rcases List.mem_cons.mp h with e | e
    · cases e; exact a
    · exact b.free e
theorem FrOk.nocell {env : Env} : ∀ {ns : List (Str × NameKind)}, FrOk env ns → ∀ y ∈ ns, y.2 ≠ .cell
  | [], _, _, h => by cases h
  | (m, k) :: r, f, y, h => by
    obtain ⟨a, b⟩ := f
    rcases List.mem_cons.mp h with e | e
    · subst e
      intro e
      have e' : k = .cell := e
      subst e'
      exact a
    · exact b.nocell y e
theorem closure_go {env : Env} : ∀ (ns : List (Str × NameKind)) (cs : List (Str × Addr)), (∀ n, (n, NameKind.free) ∈ ns → ∃ a, env.cells.lookup n = some a) →
    (forIn (m := Sem) ns cs fun x r => match x with | (name, kind) => (if (kind == NameKind.free) = true then (do let a ← cellOf env name; pure (ForInStep.yield ((name, a) :: r))) else pure (ForInStep.yield r))) = pure (closL env ns cs)
  | [], cs, _ => rfl
  | (n, k) :: r, cs, h => by
    rw [List.forIn_cons]
    cases hk : (k == NameKind.free) with
    | false =>
      simp only [hk, Bool.false_eq_true, if_false]
      rw [pure_bind]
      show forIn (m := Sem) r cs _ = pure (closL env r (if (k == NameKind.free) = true then _ else cs))
      rw [hk]
      exact closure_go r cs fun n hn => h n (List.mem_cons_of_mem _ hn)
    | true =>
      have ek : k = .free := by simpa using hk
      subst ek
      obtain ⟨a, ha⟩ := h n List.mem_cons_self
      simp only [hk, if_true]
      unfold cellOf
      rw [ha]
      simp only [pure_bind]
      show forIn (m := Sem) r ((n, a) :: cs) _ = pure (closL env r (if (NameKind.free == NameKind.free) = true then (match env.cells.lookup n with | some a => (n, a) :: cs | none => cs) else cs))
      rw [hk, if_pos rfl, ha]
      exact closure_go r _ fun n hn => h n (List.mem_cons_of_mem _ hn)
theorem closure_eq {env : Env} {sc : Scope} (h : ∀ n, (n, NameKind.free) ∈ sc.names → ∃ a, env.cells.lookup n = some a) : closureFor sc env = pure (closL env sc.names []) := by
  unfold closureFor
  exact (congrArg (fun z => z >>= fun r => pure r) (closure_go sc.names [] h)).trans (by simp)
theorem closL_sub {env : Env} : ∀ {ns : List (Str × NameKind)} {cs : List (Str × Addr)}, (∀ x c, cs.lookup x = some c → env.cells.lookup x = some c) → ∀ x c, (closL env ns cs).lookup x = some c → env.cells.lookup x = some c
  | [], _, h, x, c, e => h x c e
  | (n, k) :: r, cs, h, x, c, e => by
    refine closL_sub (ns := r) (fun y d q => ?_) x c e
    by_cases hk : (k == NameKind.free) = true
    · rw [if_pos hk] at q
      cases hn : env.cells.lookup n with
      | none => rw [hn] at q; exact h y d q
      | some a =>
        rw [hn] at q
        simp only [List.lookup_cons] at q
        cases hy : (y == n) with
        | true =>
          rw [hy] at q
          have : y = n := by simpa using hy
          subst this
          rw [hn]; exact q
        | false => rw [hy] at q; exact h y d q
    · rw [if_neg hk] at q; exact h y d q
theorem closL_has {env : Env} : ∀ {ns : List (Str × NameKind)} {cs : List (Str × Addr)} {x : Str}, ((∃ c, cs.lookup x = some c) ∨ ((x, NameKind.free) ∈ ns ∧ ∃ a, env.cells.lookup x = some a)) → ∃ c, (closL env ns cs).lookup x = some c
  | [], cs, x, h => by
    rcases h with h | ⟨h, _⟩
    · exact h
    · cases h
  | (n, k) :: r, cs, x, h => by
    refine closL_has (ns := r) ?_
    rcases h with ⟨c, h⟩ | ⟨h, a, ha⟩
    · left
      by_cases hk : (k == NameKind.free) = true
      · rw [if_pos hk]
        cases hn : env.cells.lookup n with
        | none => exact ⟨c, h⟩
        | some a =>
          simp only [List.lookup_cons]
          cases hy : (x == n) with
          | true => exact ⟨a, rfl⟩
          | false => exact ⟨c, h⟩
      · rw [if_neg hk]; exact ⟨c, h⟩
    · rcases List.mem_cons.mp h with e | e
      · left
        cases e
        rw [if_pos (by rfl), ha]
        exact ⟨a, by simp⟩
      · exact .inr ⟨e, a, ha⟩
theorem lookup_mem {α : Type} : ∀ {ns : List (Str × α)} {x : Str} {k : α}, ns.lookup x = some k → (x, k) ∈ ns
  | [], _, _, h => by cases h
  | (n, j) :: r, x, k, h => by
    simp only [List.lookup_cons] at h
    cases hx : (x == n) with
    | true =>
      rw [hx] at h
      cases h
      have : x = n := by simpa using hx
      subst this
      exact List.mem_cons_self
    | false => rw [hx] at h; exact List.mem_cons_of_mem _ (lookup_mem h)
noncomputable def rlb (env : Env) (p : Str × NameKind) : Str × NameKind := if (p.2 == NameKind.free && env.scope.kind == .function && env.kindOf p.1 == some .cell) then (p.1, NameKind.cell) else (p.1, p.2)
theorem rlb_fst (env : Env) (p : Str × NameKind) : (rlb env p).1 = p.1 := by
  unfold rlb
  split <;> rfl
theorem rlb_free (env : Env) (n : Str) : (rlb env (n, .free)).2 = .cell ∨ (rlb env (n, .free)).2 = .free := by
  unfold rlb
  split
  · exact .inl rfl
  · exact .inr rfl
theorem rlb_back (env : Env) (p : Str × NameKind) (hn : p.2 ≠ .cell) (h : (rlb env p).2 = .cell ∨ (rlb env p).2 = .free) : p.2 = .free := by
  unfold rlb at h
  split at h
  · rename_i hc
    have h1 := (Bool.and_eq_true _ _).mp hc
    have h2 := (Bool.and_eq_true _ _).mp h1.1
    simpa using h2.1
  · rcases h with h | h
    · exact absurd h hn
    · exact h
theorem lookup_consP {α : Type} (x : Str) (p : Str × α) (r : List (Str × α)) : (p :: r).lookup x = if (x == p.1) = true then some p.2 else r.lookup x := by
  obtain ⟨n, k⟩ := p
  rw [List.lookup_cons]
  cases (x == n) <;> rfl
theorem relabel_free {env : Env} : ∀ {names : List (Str × NameKind)} {x : Str}, names.lookup x = some .free → (names.map (rlb env)).lookup x = some .cell ∨ (names.map (rlb env)).lookup x = some .free
  | [], _, h => by cases h
  | (n, k) :: r, x, h => by
    have ih := @relabel_free env r x
    rw [List.map_cons, lookup_consP, rlb_fst]
    rw [lookup_consP] at h
    by_cases hx : (x == n) = true
    · rw [if_pos hx] at h ⊢
      cases h
      rcases rlb_free env n with e | e
      · exact .inl (congrArg some e)
      · exact .inr (congrArg some e)
    · rw [if_neg hx] at h ⊢
      exact ih h
theorem relabel_back {env : Env} : ∀ {names : List (Str × NameKind)} {x : Str}, (∀ y ∈ names, y.2 ≠ .cell) → ((names.map (rlb env)).lookup x = some .cell ∨ (names.map (rlb env)).lookup x = some .free) → (x, NameKind.free) ∈ names
  | [], _, _, h => by rcases h with h | h <;> cases h
  | (n, k) :: r, x, hn, h => by
    have ih := @relabel_back env r x (fun y hy => hn y (List.mem_cons_of_mem _ hy))
    rw [List.map_cons, lookup_consP, rlb_fst] at h
    by_cases hx : (x == n) = true
    · rw [if_pos hx] at h
      have ex : x = n := by simpa using hx
      subst ex
      have e := rlb_back env (x, k) (hn _ List.mem_cons_self) (h.imp Option.some.inj Option.some.inj)
      have e' : k = .free := e
      subst e'
      exact List.mem_cons_self
    · rw [if_neg hx] at h
      exact List.mem_cons_of_mem _ (ih h)

/-! ### a block's context -/
noncomputable def blk (X : Cx) (sc : Scope) (M : List Str) (C : Addr) (fp : List Addr) (s : Shared) (H : Hp) : Cx :=
  { X with N := M, s₀ := s, H₀ := H, env := compEnvC sc (closL X.env sc.names []) C X.env, outer := X.stack, stack := X.stack, ex := fp, fn := fun _ => false, pn := [], xe := fun _ _ => False }
/-- which slots of the block are slots of the frame -/
inductive FmOk (N : List Str) (sc : Scope) : List Str → List (Option Nat) → Prop
  | nil : FmOk N sc [] []
  | own {x M fm} : FmOk N sc M fm → FmOk N sc (x :: M) (none :: fm)
  | free {x M fm} (j : Nat) : N[j]? = some x → sc.names.lookup x = some .free → FmOk N sc M fm → FmOk N sc (x :: M) (some j :: fm)
noncomputable def fmSt (fm : List (Option Nat)) (σ : St) : St := fm.map fun o => match o with | none => none | some j => (σ[j]?).join
theorem FmOk.len {N : List Str} {sc : Scope} : ∀ {M : List Str} {fm : List (Option Nat)}, FmOk N sc M fm → fm.length = M.length
  | _, _, .nil => rfl
  | _, _, .own h => by simp [h.len]
  | _, _, .free _ _ _ h => by simp [h.len]
theorem FmOk.get {N : List Str} {sc : Scope} {σ : St} : ∀ {M : List Str} {fm : List (Option Nat)} {i : Nat} {x : Str} {v : V}, FmOk N sc M fm → M[i]? = some x → (fmSt fm σ)[i]? = some (some v) → ∃ (j : Nat), N[j]? = some x ∧ sc.names.lookup x = some .free ∧ σ[j]? = some (some v)
  | _, _, i, x, v, .nil, e, _ => by simp at e
  | _, _, 0, x, v, .own h, e, q => by simp [fmSt] at q
  | _, _, 0, x, v, .free j a b h, e, q => by
    simp at e
    subst e
    refine ⟨j, a, b, ?_⟩
    have q' : (σ[j]?).join = some v := by simpa [fmSt] using q
    cases hs : σ[j]? with
    | none => rw [hs] at q'; cases q'
    | some o =>
      rw [hs] at q'
      have : o = some v := q'
      rw [this]
  | _, _, i + 1, x, v, .own h, e, q => h.get (i := i) (by simpa using e) (by simpa [fmSt] using q)
  | _, _, i + 1, x, v, .free j a b h, e, q => h.get (i := i) (by simpa using e) (by simpa [fmSt] using q)

section
variable {X : Cx} {pins : List (Addr × Obj)} {σ : St} {H : Hp} {s : Shared} {sc : Scope} {M : List Str} {C : Addr} {fp : List Addr}
theorem blk_ok (I : Inv X pins σ H s) (hf : ∀ b ∈ fp, FpOk X pins H b) (hl : ∀ b ∈ fp, b < s.heap.objs.size) (hC : s.heap.objs.size ≤ C) (fr : FrOk X.env sc.names) (hk : sc.kind = .function) : (blk X sc M C fp s H).Ok where
  mod := I.ok.mod
  kind := hk
  glob := I.ok.glob
  blt := I.ok.blt
  above := hC
  inj := fun x y c e1 e2 => I.ok.inj x y c (closL_sub (fun _ _ z => by cases z) x c e1) (closL_sub (fun _ _ z => by cases z) y c e2)
  has := fun x h => by
    have hm : (x, NameKind.free) ∈ sc.names := relabel_back (env := X.env) fr.nocell h
    exact closL_has (.inr ⟨hm, I.ok.has x (fr.free hm)⟩)
  cab := fun x c h _ => by cases h
  hd := I.ok.hd
  frames := I.ok.frames
  stk := .inl rfl
  exf := fun b hb => ⟨Nat.ne_of_lt (Nat.lt_of_lt_of_le (hl b hb) hC), fun x c e => (hf b hb).2.2.2.2.1 x c (closL_sub (fun _ _ z => by cases z) x c e)⟩
  bs := I.bs
  bsz := Nat.le_trans I.ok.bsz I.sz
  noex := fun b o e hb => by
    rcases (hf b hb).2.2.2.1 with z | z
    · exact I.ok.noex b o e z
    · exact absurd (Nat.lt_of_lt_of_le (Heap.lt_size (I.ok.bs b o e).1) z) (Nat.lt_irrefl _)
  exfs := fun b hb hs => by
    rcases List.mem_cons.mp (I.stkSub b hs) with e | e
    · exact (hf b hb).2.1 e
    · exact (hf b hb).2.2.1 e
  funs := I.stack
  frf := I.stkFree
theorem blk_in {h₁ : Heap} {t : Nat} {pl : List (Addr × Obj)} {m : Str → Option Value} {fm : List (Option Nat)} (I : Inv X pins σ H s) (hf : ∀ b ∈ fp, FpOk X pins H b) (hl : ∀ b ∈ fp, b < s.heap.objs.size) (hC : s.heap.objs.size ≤ C) (fr : FrOk X.env sc.names) (hk : sc.kind = .function)
    (hfm : FmOk X.N sc M fm) (k : ∀ b o, s.heap.get? b = some o → h₁.get? b = some o) (hn : h₁.Ns C m)
    (hp : ∀ p ∈ pl, h₁.get? p.1 = some p.2 ∧ H p.1 = none ∧ p.1 ≠ C ∧ p.1 ∉ frs X.stack ∧ ∀ v, p.2.data ≠ .cell v) : Inv (blk X sc M C fp s H) pl (fmSt fm σ) H { s with heap := h₁, toks := t } where
  ok := blk_ok I hf hl hC fr hk
  os := rfl
  bare := I.bare
  base := Un.kept k
  loc := ⟨m, hn, fun i x v e1 e2 e3 => by
    obtain ⟨j, a, b, c⟩ := hfm.get e1 e2
    obtain ⟨m', hn', hl'⟩ := I.loc
    have hm := lookup_mem b
    have hk' := fr.free hm
    have vis : Vis X.env.scope x := by
      rcases hk' with z | z
      · exact .inr (.inl z)
      · exact .inr (.inr z)
    obtain ⟨u, r, l⟩ := hl' j x v a c vis
    refine ⟨u, r, .inr ⟨relabel_free b, ?_⟩⟩
    rcases l with ⟨z, _⟩ | ⟨_, cc, hcc, hcell⟩
    · rcases hk' with y | y <;> (rw [z] at y; cases y)
    · obtain ⟨c2, e2⟩ := closL_has (env := X.env) (ns := sc.names) (cs := []) (x := x) (.inr ⟨hm, cc, hcc⟩)
      have e3 := closL_sub (fun _ _ z => by cases z) x c2 e2
      rw [hcc] at e3
      cases e3
      refine ⟨cc, e2, ?_⟩
      obtain ⟨o, ho, hd⟩ := hcell
      exact ⟨o, k _ _ ho, hd⟩⟩
  cell := fun x c e => by
    obtain ⟨v, o, ho, hd⟩ := I.cell x c (closL_sub (fun _ _ z => by cases z) x c e)
    exact ⟨v, o, k _ _ ho, hd⟩
  free := I.hok.fresh hC
  freeC := fun x c e => I.freeC x c (closL_sub (fun _ _ z => by cases z) x c e)
  pin := fun p hp' => by
    have hp' : p ∈ pl := by simpa [blk] using hp'
    exact hp p hp'
  hok := I.hok.kept k
  len := by simp [fmSt, hfm.len, blk]
end
end L2

set_option Elab.async false
set_option linter.all false
set_option maxRecDepth 100000
namespace L2
open PySem PySem.Spec PyProof.Rows
/-- one clause's turn, any target -/
theorem compLoop_any {prog : Program} {w : World} {A : Around} {R : Result → Shared → Prop} {s : Shared} {elt target iter : Expr} {ifs : List Expr} {scope : Scope} {pos : Pos} {it acc : Value} {env : Env} (I : Nat → Shared → Prop)
    (turn : ∀ n s, I n s → wpAny (model prog w) A (pyNext it) (fun r s₁ => match r with
      | none => R (.ok .next) s₁
      | some v => wpAny (model prog w) A (letOwnedTupleGo target it v) (fun _ s₁' => wpAny (model prog w) A (assign target env v) (fun _ s₂ =>
          wpAny (model prog w) A (forIn ifs true fun c r => if r = true then do let ok ← isTrue c env (eval c env); pure (ForInStep.yield ok) else pure (ForInStep.yield r)) (fun ok s₃ =>
            if ok = true then wpAny (model prog w) A (eval elt env) (fun x s₄ =>
              wpAny (model prog w) A (call (.builtin "list.append") [acc, x]) (fun _ s₅ => ∃ m, m < n ∧ I m s₅) (fun _ _ => False) s₄) (fun _ _ => False) s₃
            else ∃ m, m < n ∧ I m s₃) (fun _ _ => False) s₂) (fun _ _ => False) s₁') (fun _ _ => False) s₁) (fun _ _ => False) s)
    (n : Nat) (h : I n s) :
    codeAny (model prog w) A (.compLoop (.ListComp elt [⟨target, iter, ifs, 0⟩] scope pos) 0 it acc env) R s := by
  refine codeAny_loop rfl I (fun n s hI => ?_) n h
  show wpAny _ A ((compTurn (.ListComp elt [⟨target, iter, ifs, 0⟩] scope pos) 0 it acc env).onRaise (fun x => do noteFrame x env; theTreesLotGoes x)) _ _ s
  refine wpAny_noted ?_
  rw [compTurn_list]
  refine wpAny_bind (wpAny_standAt (wpAny_bind (wpAny_mono (turn n s hI) (fun r s₁ h₁ => ?_) fun _ _ h' => h'.elim)))
  cases r with
  | none => exact wpAny_pure h₁
  | some v =>
    refine wpAny_bind (wpAny_mono h₁ (fun _ s₁' h₁' => ?_) fun _ _ h' => h'.elim)
    refine wpAny_bind (wpAny_mono h₁' (fun _ s₂ h₂ => wpAny_bind (wpAny_mono h₂ (fun ok s₃ h₃ => ?_) fun _ _ h' => h'.elim)) fun _ _ h' => h'.elim)
    cases ok with
    | false => exact wpAny_pure ⟨rfl, h₃⟩
    | true =>
      exact wpAny_bind (wpAny_bind (wpAny_mono h₃ (fun x s₄ h₄ => wpAny_bind (wpAny_mono h₄ (fun _ s₅ h₅ => wpAny_pure (wpAny_pure ⟨rfl, h₅⟩)) fun _ _ h' => h'.elim)) fun _ _ h' => h'.elim))

/-- a clause's tests -/
noncomputable def PIf (X : Cx) (ifs : List Expr) (t : TT) : Prop :=
  ∀ (pins : List (Addr × Obj)) (s : Shared) (σ : St) (H : Hp) (Q : Bool → Hp → Prop), Inv X pins σ H s → t σ H Q →
    wpAny (model X.prog X.w) X.A (forIn ifs true fun c r => if r = true then do let ok ← isTrue c X.env (eval c X.env); pure (ForInStep.yield ok) else pure (ForInStep.yield r)) (TP X pins σ Q) X.xe s
noncomputable def tYes : TT := fun _ H Q => Q true H
theorem pif_nil {X : Cx} : PIf X [] tYes := fun pins s σ H Q I h => wpAny_tests_nil ⟨H, I, h⟩
theorem pif_one {X : Cx} {c : Expr} {t : TT} (h : PT X c t) : PIf X [c] t := fun pins s σ H Q I hw => wpAny_tests_one (h pins s σ H Q I hw)

/-- a target stores into the block's own slots alone -/
noncomputable def GK (fm : List (Option Nat)) (g : TG) : Prop := ∀ (x : V) (σ : St) (H : Hp) (Q : St → Hp → Prop), g x σ H Q → g x σ H fun σ' H' => Q σ' H' ∧ ∀ (i j : Nat), fm[i]? = some (some j) → σ'[i]? = σ[i]?
noncomputable def GKs (fm : List (Option Nat)) (g : TGs) : Prop := ∀ (xs : List V) (σ : St) (H : Hp) (Q : St → Hp → Prop), g xs σ H Q → g xs σ H fun σ' H' => Q σ' H' ∧ ∀ (i j : Nat), fm[i]? = some (some j) → σ'[i]? = σ[i]?
theorem gk_name {fm : List (Option Nat)} {i : Nat} (h : fm[i]? = some none) : GK fm (gName i) := fun x σ H Q q => ⟨q, fun i' j e => by
  by_cases hi : i = i'
  · subst hi; rw [h] at e; cases e
  · exact List.getElem?_set_ne hi⟩
theorem gks_nil {fm : List (Option Nat)} : GKs fm gNil := fun xs σ H Q ⟨e, q⟩ => ⟨e, q, fun _ _ _ => rfl⟩
/-- the targets that are met: names, tuples of names -/
theorem gks_cons {fm : List (Option Nat)} {i : Nat} {u : TGs} (h : fm[i]? = some none) (h2 : GKs fm u) : GKs fm (gCons (gName i) u) := fun xs σ H Q ⟨v, r, e, q⟩ => ⟨v, r, e, by
  have q2 := h2 r (σ.set i (some v)) H Q q
  have mono : ∀ (σ0 σ1 : St), σ1 = σ0.set i (some v) → (u r σ1 H fun σ' H' => Q σ' H' ∧ ∀ (i j : Nat), fm[i]? = some (some j) → σ'[i]? = σ1[i]?) = (u r σ1 H fun σ' H' => Q σ' H' ∧ ∀ (i j : Nat), fm[i]? = some (some j) → σ'[i]? = σ0[i]?) := fun σ0 σ1 e1 => by
    subst e1
    congr 1
    funext σ' H'
    apply propext
    constructor
    · rintro ⟨a, b⟩
      refine ⟨a, fun i' j e => (b i' j e).trans ?_⟩
      by_cases hi : i = i'
      · subst hi; rw [h] at e; cases e
      · exact List.getElem?_set_ne hi
    · rintro ⟨a, b⟩
      refine ⟨a, fun i' j e => (b i' j e).trans ?_⟩
      by_cases hi : i = i'
      · subst hi; rw [h] at e; cases e
      · exact (List.getElem?_set_ne hi).symm
  show u r (σ.set i (some v)) H _
  rw [← mono σ _ rfl]
  exact q2⟩
theorem gk_tup {K : PySem.W.Frag} {fm : List (Option Nat)} {n : Nat} {t : TGs} (h : GKs fm t) : GK fm (gTup K n t) := fun x σ H Q ⟨a, xs, e, q, l, r⟩ => ⟨a, xs, e, q, l, h xs σ H Q r⟩
theorem fm_slot {fm : List (Option Nat)} {σ : St} {i : Nat} {v : V} (e : (fmSt fm σ)[i]? = some (some v)) : ∃ j, fm[i]? = some (some j) := by
  unfold fmSt at e
  rw [List.getElem?_map] at e
  cases h : fm[i]? with
  | none => rw [h] at e; cases e
  | some o =>
    cases o with
    | none => rw [h] at e; cases e
    | some j => exact ⟨j, rfl⟩

/-- what a list comprehension asks: W is the word between two turns (turn, measure, the items so far, the heap) -/
noncomputable def tLC (wi : TI) (fm : List (Option Nat)) (g : TG) (tt : TT) (te : TE) : TE := fun σ H Q => wi σ H fun J H1 => ∃ W : Nat → Nat → List V → Hp → Prop, (∃ m, W 0 m [] H1) ∧ ∀ i m ys H, W i m ys H →
  (J.stop i H ∧ ∀ p, H p = none → Q (.ref p) (upd H p (.lst ys))) ∨
  (J.go i H ∧ ys.length < sizeLine ∧ ∃ N : List V → Hp → Prop, (∀ ys' H', N ys' H' → ∃ m', m' < m ∧ W (i + 1) m' ys' H') ∧
    ∀ x H', J.yld i H x H' → g x (fmSt fm σ) H' fun σ2 H2 => tt σ2 H2 fun ok H3 => if ok = true then te σ2 H3 fun v H4 => N (ys ++ [v]) H4 else N ys H3)

section
variable {X : Cx} {pins : List (Addr × Obj)} {σ : St} {sc : Scope} {M : List Str} {fm : List (Option Nat)} {tg iter elt : Expr} {ifs : List Expr} {pos : Pos} {g : TG} {tt : TT} {te : TE}
/-- a block: from the iterator to the list, at the end of its turns -/
theorem comp_core {it : Addr} {fp : List Addr} {tn : Nat → Heap → Prop} {J : It} {H2 : Hp} {s2 : Shared} {E : Value → Shared → Prop} {RR : Value → Addr → Result → Shared → Prop} {Q : VK} (hc : X.calm = true)
    (I2 : Inv X pins σ H2 s2) (T : Turn X.prog X.w X.K tg J fp it tn) (st : tn 0 s2.heap) (hf : ∀ b ∈ fp, FpOk X pins H2 b) (fr : FrOk X.env sc.names) (hk : sc.kind = .function) (hfm : FmOk X.N sc M fm) (hgk : GK fm g)
    (hB : ∀ C fp s H, PG (blk X sc M C fp s H) tg g ∧ PIf (blk X sc M C fp s H) ifs tt ∧ PE (blk X sc M C fp s H) elt te)
    (W : Nat → Nat → List V → Hp → Prop) (hw : ∃ m, W 0 m [] H2)
    (turn : ∀ i m ys H, W i m ys H → (J.stop i H ∧ ∀ p, H p = none → Q (.ref p) (upd H p (.lst ys))) ∨
      (J.go i H ∧ ys.length < sizeLine ∧ ∃ N : List V → Hp → Prop, (∀ ys' H', N ys' H' → ∃ m', m' < m ∧ W (i + 1) m' ys' H') ∧
        ∀ x H', J.yld i H x H' → g x (fmSt fm σ) H' fun σ2 H2 => tt σ2 H2 fun ok H3 => if ok = true then te σ2 H3 fun v H4 => N (ys ++ [v]) H4 else N ys H3))
    (hRR : ∀ D C H' m s', s'.heap.Ns C m → Inv X pins σ H' s' → FpOk X pins H' C → Q (.ref D) H' → RR (.ref D) C (.ok .next) s') :
    wpAny (model X.prog X.w) X.A (newList []) (fun acc s₃ => wpAny (model X.prog X.w) X.A (newFunctionEnv sc X.env.globals (closL X.env sc.names []) [] X.env.qual none .none (some X.env)) (fun cenv s₄ =>
      codeAny (model X.prog X.w) X.A (.compStart (.ListComp elt [⟨tg, iter, ifs, 0⟩] sc pos) 0 (.ref it) acc { cenv with scope := relabel sc X.env }) (RR acc cenv.locals) s₄) E s₃) E s2 := by
  have hl : ∀ b ∈ fp, b < s2.heap.objs.size := fun b hb => by
    obtain ⟨o, e, _⟩ := T.obj _ _ st b hb
    exact Heap.lt_size e
  refine wpAny_newObj_type (wpAny_newFunctionEnv fr.nocell (by intro y hy; simp at hy) (fun h₁ hns₁ hsb₁ => ?_) hk)
  dsimp only at hns₁ hsb₁ ⊢
  generalize hH2 : s2.heap.push { cls := .type "list", dict := none, data := .seq ([] : List Value).toArray } = G2 at hns₁ hsb₁ ⊢
  have hC : G2.objs.size = s2.heap.objs.size + 1 := by rw [← hH2, Heap.size_push]
  have hCle : s2.heap.objs.size ≤ G2.objs.size := by rw [hC]; exact Nat.le_succ _
  have hDC : s2.heap.objs.size ≠ G2.objs.size := by rw [hC]; exact Nat.ne_of_lt (Nat.lt_succ_self _)
  have below : ∀ b, b < s2.heap.objs.size → b ≠ G2.objs.size := fun b hb => Nat.ne_of_lt (Nat.lt_of_lt_of_le hb hCle)
  have old : ∀ b o, s2.heap.get? b = some o → h₁.get? b = some o := fun b o e => hsb₁.extBut b o (below b (Heap.lt_size e)) (Heap.get?_push_of_some _ (hH2 ▸ Heap.get?_push_of_some _ e))
  have hacc : h₁.PlainList s2.heap.objs.size #[] := ⟨_, hsb₁.extBut _ _ hDC (Heap.get?_push_of_some _ (hH2 ▸ Heap.get?_push_size _ rfl))⟩
  have hst₁ : tn 0 h₁ := T.keep _ _ _ st fun b _ o e => old b o e
  obtain ⟨B1, B2, B3⟩ := hB G2.objs.size fp s2 H2
  have hDfs : s2.heap.objs.size ∉ frs X.stack := fun hb => by
    rcases List.mem_cons.mp (I2.stkSub _ hb) with e | e
    · exact absurd I2.lt (by rw [← e]; exact Nat.lt_irrefl _)
    · exact I2.nofs (Nat.le_refl _) e
  have hDf : s2.heap.objs.size ∉ fp := fun hb => Nat.lt_irrefl _ (hl _ hb)
  -- the iterator's records, in the block
  have fpB : ∀ {pl : List (Addr × Obj)} {H' : Hp}, (∀ b ∈ fp, H' b = none) → (∀ p ∈ pl, p.1 ∉ fp) → ∀ b ∈ fp, FpOk (blk X sc M G2.objs.size fp s2 H2) pl H' b := fun {pl H'} hn hp b hb => by
    refine ⟨hn b hb, below b (hl b hb), fun z => ?_, .inl hb, fun x c e => (hf b hb).2.2.2.2.1 x c (closL_sub (fun _ _ z => by cases z) x c e), fun p hp' z => ?_⟩
    · rcases List.mem_cons.mp (I2.stkSub b z) with e | e
      · exact (hf b hb).2.1 e
      · exact (hf b hb).2.2.1 e
    · have hp'' : p ∈ pl := by simpa [blk] using hp'
      exact hp p hp'' (z ▸ hb)
  have loop : ∀ s₃ : Shared, s₃ = { s2 with heap := h₁, toks := s2.toks + ([] : List (Str × Value)).length } →
      codeAny (model X.prog X.w) X.A (.compLoop (.ListComp elt [⟨tg, iter, ifs, 0⟩] sc pos) 0 (.ref it) (.ref s2.heap.objs.size) (compEnvC sc (closL X.env sc.names []) G2.objs.size X.env)) (RR (.ref s2.heap.objs.size) G2.objs.size) s₃ := by
    rintro s₃ rfl
    obtain ⟨m0, w0⟩ := hw
    -- the state between two turns
    refine compLoop_any (fun n s' => ∃ (i : Nat) (ys : List V) (its : List Value) (k : Nat) (H' : Hp), Inv (blk X sc M G2.objs.size fp s2 H2) [(s2.heap.objs.size, { cls := .type "list", data := .seq its.toArray k })] (fmSt fm σ) H' s' ∧ Vals ys its ∧ ys.length ≤ sizeLine ∧
      tn i s'.heap ∧ (∀ b ∈ fp, H' b = none) ∧ W i n ys H') ?_ m0 ?_
    · rintro n s' ⟨i, ys, its, k, H', I', rv, hz, st', fn', w'⟩
      have np : ∀ p ∈ [((s2.heap.objs.size, { cls := .type "list", data := .seq its.toArray k }) : Addr × Obj)], p.1 ∉ fp := fun p hp => by
        rcases List.mem_singleton.mp hp with rfl
        exact hDf
      rcases turn i n ys H' w' with ⟨stop, qn⟩ | ⟨go, hz', N, hN, step⟩
      · refine thn (T.done (blk X sc M G2.objs.size fp s2 H2) rfl rfl rfl hc i _ s' _ H' _ I' (fpB fn' np) st' stop) fun r s4 ⟨hr, I4⟩ => ?_
        subst hr
        -- the end: the list is tracked, the frame's invariant again
        obtain ⟨eD, nD, _, _, _⟩ := I4.pin _ (List.mem_append_right _ List.mem_cons_self)
        obtain ⟨m4, hn4, _⟩ := I4.loc
        have u4 : Un (frs X.stack) fp H2 H' s2.heap s4.heap := I4.base
        have eD' : s4.heap.get? s2.heap.objs.size = some { cls := .type "list", data := .seq its.toArray k } := eD
        have nD' : H' s2.heap.objs.size = none := nD
        have ne : ∀ b, b < s2.heap.objs.size → b ≠ s2.heap.objs.size := fun b hb => Nat.ne_of_lt hb
        have hok : HOk X.prog X.w (upd H' s2.heap.objs.size (.lst ys)) s4.heap := fun b ob e => by
          by_cases hb : b = s2.heap.objs.size
          · subst hb
            rw [upd_same] at e
            cases e
            exact ⟨hz, its, k, rv, eD'⟩
          · rw [upd_ne hb] at e
            exact (I4.hok b ob e).stay (fun _ _ _ q => q) (fun c q => by rw [upd_ne (ne_of_none q nD')]; exact q) fun c xs q => by rw [upd_ne (ne_of_none q nD')]; exact q
        have u5 : Un (frs X.stack) fp H2 (upd H' s2.heap.objs.size (.lst ys)) s2.heap s4.heap :=
          ⟨u4.keep, u4.slot, fun b o e n hx => by rw [upd_ne (ne b (Heap.lt_size e))]; exact u4.free b o e n hx, u4.there,
            fun b xs e => by have := u4.tups b xs e; rw [upd_ne (ne_of_none this nD')]; exact this,
            fun b o u e => by have := u4.frzs b o u e; rw [upd_ne (ne_of_none this nD')]; exact this,
            fun b ps e => by obtain ⟨mo, this⟩ := u4.tbls b ps e; exact ⟨mo, by rw [upd_ne (ne_of_none this nD')]; exact this⟩⟩
        have I5 : Inv X pins σ (upd H' s2.heap.objs.size (.lst ys)) s4 :=
          I2.call' I4.os u5 hok I4.bare fun b hb => ⟨(hf b hb).2.2.2.1, (hf b hb).2.1, (hf b hb).2.2.2.2.1, (hf b hb).2.2.2.2.2⟩
        refine hRR _ _ _ m4 s4 hn4 I5 (I2.fpOk hCle ?_) (qn _ nD')
        rw [upd_ne (Ne.symm hDC)]
        exact I4.free
      · refine thn (T.item (blk X sc M G2.objs.size fp s2 H2) rfl rfl rfl hc i _ s' _ H' _ I' (fpB fn' np) st' go) fun r s4 ⟨u, hr, h4⟩ => ?_
        subst hr
        refine thn h4 fun _ s5 ⟨x, H5, I5, r5, y5, st5, fr5⟩ => ?_
        have I5' := I5.pinned (fpB fr5 np) (T.obj _ _ st5)
        refine thn (B1 _ s5 _ H5 x u _ I5' r5 (hgk _ _ _ _ (step x H5 y5))) fun _ s6 ⟨σ6, H6, I6, q6, k6⟩ => ?_
        refine thn (B2 _ s6 σ6 H6 _ I6 q6) fun ok s7 ⟨H7, I7, q7⟩ => ?_
        have len6 : (fmSt fm σ).length = σ6.length := I'.len.trans I6.len.symm
        have wk : ∀ (j : Nat) (v : V), (fmSt fm σ)[j]? = some (some v) → σ6[j]? = some (some v) := fun j v e => by
          obtain ⟨j', e'⟩ := fm_slot e
          rw [k6 j j' e']
          exact e
        have back : ∀ {σ8 : St} {H8 : Hp} {s8 : Shared}, Inv (blk X sc M G2.objs.size fp s2 H2) ([(s2.heap.objs.size, { cls := .type "list", data := .seq its.toArray k })] ++ pinsAt fp s5.heap) σ8 H8 s8 → tn (i + 1) s8.heap ∧ ∀ b ∈ fp, H8 b = none := fun {σ8 H8 s8} I8 => by
          refine ⟨T.keep _ _ _ st5 fun b hb o e => (I8.pin (b, o) (List.mem_append_right _ (List.mem_append_right _ (mem_pinsAt hb e)))).1, fun b hb => ?_⟩
          obtain ⟨o, e, d⟩ := T.obj _ _ st5 b hb
          exact (I8.pin (b, o) (List.mem_append_right _ (List.mem_append_right _ (mem_pinsAt hb e)))).2.1
        cases ok with
        | false =>
          rw [if_neg Bool.false_ne_true] at q7
          rw [if_neg Bool.false_ne_true]
          obtain ⟨m', hm, w7⟩ := hN ys H7 q7
          exact ⟨m', hm, i + 1, ys, its, k, H7, (I7.weak len6 wk).unpinned, rv, hz, (back I7).1, (back I7).2, w7⟩
        | true =>
          rw [if_pos rfl] at q7
          rw [if_pos rfl]
          refine thn (B3 _ s7 σ6 H7 _ I7 q7) fun y s8 ⟨v, H8, I8, r8, q8⟩ => ?_
          obtain ⟨st8, fr8⟩ := back I8
          obtain ⟨m', hm, w8⟩ := hN _ H8 q8
          obtain ⟨eD, nD, _, _, _⟩ := I8.pin _ (List.mem_append_right _ (List.mem_append_left _ List.mem_cons_self))
          have hits : its.toArray.size = ys.length := by simp [rv.length]
          refine wpAny_list_append_plain (items := its.toArray) ⟨k, eD⟩ (fun h' hpl hsb => ?_) (by rw [hits]; exact hz)
          obtain ⟨k', ek⟩ := hpl
          have ek' : h'.get? s2.heap.objs.size = some { cls := .type "list", data := .seq (its ++ [y]).toArray k' } := by simpa using ek
          have np8 : ∀ p ∈ pinsAt fp s5.heap, p.1 ≠ s2.heap.objs.size := fun p hp z => hDf (z ▸ (of_pinsAt hp).1)
          have I9 : Inv (blk X sc M G2.objs.size fp s2 H2) (pinsAt fp s5.heap) σ6 H8 s8 := I8.pins_of fun p hp => I8.pin p (List.mem_append_right _ (List.mem_append_right _ hp))
          have I10 : Inv (blk X sc M G2.objs.size fp s2 H2) (pinsAt fp s5.heap) σ6 H8 { s8 with heap := h', toks := s8.toks } :=
            I9.turned (it := s2.heap.objs.size) (fun b o hb e => hsb.extBut b o hb e) nD hDC (.inr (Nat.le_refl _)) (fun x c e z => by
              obtain ⟨v', q⟩ := I2.cell x c (closL_sub (fun _ _ z => by cases z) x c e)
              exact absurd (show c < s2.heap.objs.size from q.lt) (by rw [z]; exact Nat.lt_irrefl _)) fun p hp => np8 p (by simpa [blk] using hp)
          have I11 : Inv (blk X sc M G2.objs.size fp s2 H2) [(s2.heap.objs.size, { cls := .type "list", data := .seq (its ++ [y]).toArray k' })] (fmSt fm σ) H8 { s8 with heap := h', toks := s8.toks } :=
            (I10.weak len6 wk).pins_of fun p hp => by
              rcases List.mem_singleton.mp hp with rfl
              exact ⟨ek', nD, hDC, hDfs, fun _ z => nomatch z⟩
          refine ⟨m', hm, i + 1, ys ++ [v], its ++ [y], k', H8, I11, rv.append (.cons r8 .nil), ?_, ?_, fr8, w8⟩
          · rw [List.length_append]; exact hz'
          · exact T.keep _ _ _ st8 fun b hb o e => hsb.extBut b o (fun z => hDf (z ▸ hb)) e
    · obtain ⟨k0, e0⟩ := hacc
      refine ⟨0, [], [], k0, H2, blk_in I2 hf hl hCle fr hk hfm old hns₁ fun p hp => ?_, .nil, Nat.zero_le _, hst₁, fun b hb => (hf b hb).1, w0⟩
      rcases List.mem_singleton.mp hp with rfl
      exact ⟨e0, I2.hok.fresh (Nat.le_refl _), hDC, hDfs, fun _ z => nomatch z⟩
  exact codeAny_compStart_list (loop _ rfl) (T.self _ 0 _ _ _ hst₁ (loop _ rfl))
end
end L2

set_option Elab.async false
set_option linter.all false
set_option maxRecDepth 100000
namespace L2
open PySem PySem.Spec PyProof.Rows
section
variable {X : Cx} {sc : Scope} {M : List Str} {fm : List (Option Nat)} {tg iter elt : Expr} {ifs : List Expr} {pos : Pos} {g : TG} {tt : TT} {te : TE} {wi : TI}
/-- the block's record lets its names go: nothing that is known changes -/
theorem Inv.letGo {pins : List (Addr × Obj)} {σ : St} {H : Hp} {s : Shared} {C : Addr} {h' : Heap} (I : Inv X pins σ H s) (f : FpOk X pins H C) (hs : Heap.SameBut C s.heap h') : Inv X pins σ H { s with heap := h' } :=
  I.turned (t' := s.toks) (it := C) (fun b o hb e => hs.extBut b o hb e) f.1 f.2.1 f.2.2.2.1 f.2.2.2.2.1 f.2.2.2.2.2
theorem pe_lc (hc : X.calm = true) (fr : FrOk X.env sc.names) (hfm : FmOk X.N sc M fm) (hgk : GK fm g) (hk : sc.kind = .function) (hnm : ∀ y ∈ sc.names, y.2 = .local → sc.names.lookup y.1 = some .local) (hi : PI X tg iter wi)
    (hB : ∀ C fp s H, PG (blk X sc M C fp s H) tg g ∧ PIf (blk X sc M C fp s H) ifs tt ∧ PE (blk X sc M C fp s H) elt te) (hs : ∀ x, foldedSetIterable iter X.env x = pure x := by intro _; rfl) :
    PE X (.ListComp elt [⟨tg, iter, ifs, 0⟩] sc pos) (tLC wi fm g tt te) := by
  intro pins s σ H Q I h
  rw [eval_ListComp]
  have hclos := closure_eq (env := X.env) (sc := sc) fun n hn => I.ok.has n (fr.free hn)
  refine wpAny_comprehension_free (use := none) rfl hs hclos hk hnm (thn (hi pins s σ H _ I h) fun v s1 h1 => thn h1 fun itv s2 h2 => ?_)
  obtain ⟨it, fp, tn, J, H2, e, I2, T, st2, f2, W, w0, turn⟩ := h2
  subst e
  refine comp_core (Q := Q) (RR := fun acc C => compPost (model X.prog X.w) X.A X.xe none (EP X pins σ Q) acc C) hc I2 T st2 f2 fr hk hfm hgk hB W w0 turn ?_
  intro D C H' m s' hn I' f' q
  exact ⟨m, hn, fun h' hs' => ⟨.ref D, H', I'.letGo f' hs', rfl, q⟩⟩
/-- x = [..] where the store is exchanged with the block's end -/
theorem ps_set_lc {i : Nat} {x : Str} {px pst : Pos} (hN : X.N.Nodup) (hix : X.N[i]? = some x) (hx : X.env.kindOf x = some .local) (hsw : swapsWith (.ListComp elt [⟨tg, iter, ifs, 0⟩] sc pos) (some (.Name x px)) pst.line X.env = pure true)
    (hc : X.calm = true) (fr : FrOk X.env sc.names) (hfm : FmOk X.N sc M fm) (hgk : GK fm g) (hk : sc.kind = .function) (hnm : ∀ y ∈ sc.names, y.2 = .local → sc.names.lookup y.1 = some .local) (hi : PI X tg iter wi)
    (hB : ∀ C fp s H, PG (blk X sc M C fp s H) tg g ∧ PIf (blk X sc M C fp s H) ifs tt ∧ PE (blk X sc M C fp s H) elt te) (hs : ∀ x, foldedSetIterable iter X.env x = pure x := by intro _; rfl) :
    PS X (.Assign [.Name x px] (.ListComp elt [⟨tg, iter, ifs, 0⟩] sc pos) pst) (tAsg (tLC wi fm g tt te) (gName i)) := by
  intro pins s σ H D I h
  rw [exec_Assign_Name_used _ _ _ _ hsw]
  refine wpAny_bind (wpAny_standAt (wpAny_bind ?_))
  show wpAny _ _ (do let _ ← comprehension (.ListComp elt [⟨tg, iter, ifs, 0⟩] sc pos) sc X.env _ (newList []) false (eval iter X.env) (some (assign (.Name x px) X.env))) _ _ s
  have hclos := closure_eq (env := X.env) (sc := sc) fun n hn => I.ok.has n (fr.free hn)
  refine wpAny_bind (wpAny_mono (wpAny_comprehension_free (use := some (assign (.Name x px) X.env)) (Q := fun _ s' => SP X pins D .next s') rfl hs hclos hk hnm (thn (hi pins s σ H _ I h) fun v s1 h1 => thn h1 fun itv s2 h2 => ?_))
    (fun _ s' hq => wpAny_pure (wpAny_pure hq)) fun _ _ e => e)
  obtain ⟨it, fp, tn, J, H2, e, I2, T, st2, f2, W, w0, turn⟩ := h2
  subst e
  refine comp_core (Q := fun v H' => gName i v σ H' D.nx) (RR := fun acc C => compPost (model X.prog X.w) X.A X.xe (some (assign (.Name x px) X.env)) (fun _ s' => SP X pins D .next s') acc C) hc I2 T st2 f2 fr hk hfm hgk hB W w0 turn ?_
  intro Da C H' m s' hn I' f' q
  show wpAny _ _ (assign (.Name x px) X.env (.ref Da)) _ _ s'
  refine wpAny_assign_Name (store_ok2 (v := .ref Da) I' hN hix (.inl hx) rfl (fun s2 I2' hs2 => ?_) (.inr hx))
  obtain ⟨a, hsb, ha⟩ := hs2
  have hCa : C ≠ a := by
    rcases ha with rfl | ha
    · exact f'.2.1
    · exact (f'.2.2.2.2.1 x a ha).symm
  exact ⟨m, hn.sameBut hsb hCa, fun h' hs' => ⟨_, H', I2'.letGo f' hs', q⟩⟩
end
end L2

set_option Elab.async false
set_option linter.all false
set_option maxRecDepth 100000
namespace L2
open PySem PySem.Spec PyProof.Rows
/-! ### a value as data -/
mutual
inductive Is (H : Hp) : V → PyData → Prop
  | non : Is H .non .none
  | bl (b : Bool) : Is H (.bl b) (.bool b)
  | int (i : Int) : Is H (.int i) (.int i)
  | str (x : Str) : Is H (.str x) (.str x)
  | tup {a : Addr} {xs : List V} {ds : List PyData} : H a = some (.tup xs) → IsAll H xs ds → Is H (.ref a) (.tuple ds)
  | lst {a : Addr} {xs : List V} {ds : List PyData} : Rd H a (.lst xs) → IsAll H xs ds → Is H (.ref a) (.list ds)
inductive IsAll (H : Hp) : List V → List PyData → Prop
  | nil : IsAll H [] []
  | cons {v : V} {d : PyData} {vs : List V} {ds : List PyData} : Is H v d → IsAll H vs ds → IsAll H (v :: vs) (d :: ds)
end
theorem IsAll.length {H : Hp} : ∀ {vs : List V} {ds : List PyData}, IsAll H vs ds → vs.length = ds.length
  | _, _, .nil => rfl
  | _, _, .cons _ t => by simp [t.length]
theorem IsAll.get {H : Hp} : ∀ {vs : List V} {ds : List PyData} {i : Nat} {d : PyData}, IsAll H vs ds → ds[i]? = some d → ∃ v, vs[i]? = some v ∧ Is H v d
  | _, _, _, _, .nil, e => by simp at e
  | _, _, 0, _, .cons h t, e => by simp at e; subst e; exact ⟨_, rfl, h⟩
  | _, _, i + 1, d, .cons h t, e => by
    obtain ⟨v, a, b⟩ := t.get (i := i) (d := d) (by simpa using e)
    exact ⟨v, by simpa using a, b⟩
theorem IsAll.get' {H : Hp} : ∀ {vs : List V} {ds : List PyData} {i : Nat} {v : V}, IsAll H vs ds → vs[i]? = some v → ∃ d, ds[i]? = some d ∧ Is H v d
  | _, _, _, _, .nil, e => by simp at e
  | _, _, 0, _, .cons h t, e => by simp at e; subst e; exact ⟨_, rfl, h⟩
  | _, _, i + 1, d, .cons h t, e => by
    obtain ⟨v, a, b⟩ := t.get' (i := i) (v := d) (by simpa using e)
    exact ⟨v, by simpa using a, b⟩
theorem IsAll.append {H : Hp} : ∀ {vs : List V} {ds : List PyData} {us : List V} {es : List PyData}, IsAll H vs ds → IsAll H us es → IsAll H (vs ++ us) (ds ++ es)
  | _, _, _, _, .nil, s => s
  | _, _, _, _, .cons h t, s => .cons h (t.append s)
theorem IsAll.snoc {H : Hp} {vs : List V} {ds : List PyData} {v : V} {d : PyData} (h : IsAll H vs ds) (q : Is H v d) : IsAll H (vs ++ [v]) (ds ++ [d]) := h.append (.cons q .nil)
theorem IsAll.take {H : Hp} : ∀ {vs : List V} {ds : List PyData} (n : Nat), IsAll H vs ds → IsAll H (vs.take n) (ds.take n)
  | _, _, 0, _ => .nil
  | _, _, _ + 1, .nil => .nil
  | _, _, n + 1, .cons h t => .cons h (t.take n)
theorem IsAll.drop {H : Hp} : ∀ {vs : List V} {ds : List PyData} (n : Nat), IsAll H vs ds → IsAll H (vs.drop n) (ds.drop n)
  | _, _, 0, h => h
  | _, _, _ + 1, .nil => .nil
  | _, _, n + 1, .cons h t => t.drop n
theorem IsAll.ints {H : Hp} : ∀ ns : List Int, IsAll H (ns.map V.int) (ns.map PyData.int)
  | [] => .nil
  | n :: ns => .cons (.int n) (IsAll.ints ns)
theorem IsAll.of_ints {H : Hp} : ∀ {vs : List V} {ns : List Int}, IsAll H vs (ns.map PyData.int) → vs = ns.map V.int
  | _, [], h => by cases h; rfl
  | _, n :: ns, h => by
    rw [List.map_cons] at h
    cases h with
    | cons h1 t =>
    cases h1
    rw [List.map_cons, t.of_ints]
mutual
theorem Is.mono {H H' : Hp} (ht : ∀ a xs, H a = some (.tup xs) → H' a = some (.tup xs)) (hl : ∀ a xs, Rd H a (.lst xs) → Rd H' a (.lst xs)) : ∀ {v : V} {d : PyData}, Is H v d → Is H' v d
  | _, _, .non => .non
  | _, _, .bl b => .bl b
  | _, _, .int i => .int i
  | _, _, .str x => .str x
  | _, _, .tup e h => .tup (ht _ _ e) (IsAll.mono ht hl h)
  | _, _, .lst e h => .lst (hl _ _ e) (IsAll.mono ht hl h)
theorem IsAll.mono {H H' : Hp} (ht : ∀ a xs, H a = some (.tup xs) → H' a = some (.tup xs)) (hl : ∀ a xs, Rd H a (.lst xs) → Rd H' a (.lst xs)) : ∀ {vs : List V} {ds : List PyData}, IsAll H vs ds → IsAll H' vs ds
  | _, _, .nil => .nil
  | _, _, .cons h t => .cons (Is.mono ht hl h) (IsAll.mono ht hl t)
end
/-! no list within -/
mutual
noncomputable def noL : PyData → Bool
  | .none | .bool _ | .int _ | .str _ => true
  | .tuple xs => noLs xs
  | .list _ | .dict _ => false
noncomputable def noLs : List PyData → Bool
  | [] => true
  | x :: xs => noL x && noLs xs
end
mutual
theorem Is.tmono {H H' : Hp} (ht : ∀ a xs, H a = some (.tup xs) → H' a = some (.tup xs)) : ∀ {v : V} {d : PyData}, noL d = true → Is H v d → Is H' v d
  | _, _, _, .non => .non
  | _, _, _, .bl b => .bl b
  | _, _, _, .int i => .int i
  | _, _, _, .str x => .str x
  | _, _, n, .tup e h => .tup (ht _ _ e) (IsAll.tmono ht (by simpa [noL] using n) h)
  | _, _, n, .lst e h => by simp [noL] at n
theorem IsAll.tmono {H H' : Hp} (ht : ∀ a xs, H a = some (.tup xs) → H' a = some (.tup xs)) : ∀ {vs : List V} {ds : List PyData}, noLs ds = true → IsAll H vs ds → IsAll H' vs ds
  | _, _, _, .nil => .nil
  | _, _, n, .cons h t => by
    rw [noLs, Bool.and_eq_true] at n
    exact .cons (Is.tmono ht n.1 h) (IsAll.tmono ht n.2 t)
end
theorem Same.rd {H H' : Hp} (e : Same H H') {a : Addr} {u : HO} (h : Rd H a u) : Rd H' a u := by
  rcases h with h | ⟨o, h⟩
  · exact .inl (e _ _ h)
  · exact .inr ⟨o, e _ _ h⟩
theorem Is.same {H H' : Hp} (e : Same H H') {v : V} {d : PyData} (h : Is H v d) : Is H' v d := h.mono (fun _ _ q => e _ _ q) fun _ _ q => e.rd q
theorem IsAll.same {H H' : Hp} (e : Same H H') {v : List V} {d : List PyData} (h : IsAll H v d) : IsAll H' v d := h.mono (fun _ _ q => e _ _ q) fun _ _ q => e.rd q
section
variable {X : Cx} {pins : List (Addr × Obj)} {σ : St} {H : Hp} {s : Shared}
mutual
theorem Is.reads (I : Inv X pins σ H s) : ∀ {v : V} {d : PyData} {u : Value}, Is H v d → RelV v u → ∃ as, Reads s.heap u d as
  | _, _, _, .non, r => by cases (show _ = Value.none from r); exact ⟨_, .none⟩
  | _, _, _, .bl b, r => by cases (show _ = Value.bool b from r); exact ⟨_, .bool b⟩
  | _, _, _, .int i, r => by obtain ⟨t, rfl⟩ := r; exact ⟨_, .int i t⟩
  | _, _, _, .str x, r => by obtain ⟨t, rfl⟩ := r; exact ⟨_, .str x t⟩
  | _, _, _, .tup (a := a) e h, r => by
    cases (show _ = Value.ref a from r)
    obtain ⟨its, rv, ⟨o, h1, h2, n, h3⟩, _⟩ := I.tuple (SqT.of e)
    obtain ⟨as, ra⟩ := IsAll.reads I h rv
    exact ⟨_, .tuple h1 h2 h3 (by simpa using ra)⟩
  | _, _, _, .lst (a := a) e h, r => by
    cases (show _ = Value.ref a from r)
    obtain ⟨its, rv, ⟨o, n, h1, h2, _, h3⟩, _⟩ := I.list (.inl e)
    obtain ⟨as, ra⟩ := IsAll.reads I h rv
    exact ⟨_, .list h1 h2 h3 (by simpa using ra)⟩
theorem IsAll.reads (I : Inv X pins σ H s) : ∀ {vs : List V} {ds : List PyData} {us : List Value}, IsAll H vs ds → Vals vs us → ∃ as, ReadsAll s.heap us ds as
  | _, _, _, .nil, .nil => ⟨_, .nil⟩
  | _, _, _, .cons h t, .cons r q => by
    obtain ⟨as, ra⟩ := Is.reads I h r
    obtain ⟨bs, rb⟩ := IsAll.reads I t q
    exact ⟨_, .cons ra rb⟩
end
end
/-! ### ==, !=, in, not in -/
/-- fit for a comparison -/
noncomputable def okD (d : PyData) : Prop := d.canLay0 = true ∧ d.depth ≤ 40
noncomputable def okDs (ds : List PyData) : Prop := PyData.canLayAll0 ds = true ∧ PyData.depthAll ds ≤ 40
section
variable {X : Cx}
noncomputable def rEqD (neg : Bool) : R2 := fun x y H Q => ∃ d e, Is H x d ∧ Is H y e ∧ okD d ∧ okD e ∧ Q (.bl (if neg then !PyData.eqv d e else PyData.eqv d e)) H
theorem op_eqD (hu : X.A.units + 64 < cLine) : OpR X (compareOp .Eq) (rEqD false) := by
  intro pins s σ H x y v u Q I rx ry h
  obtain ⟨d, e, hx, hy, od, oe, q⟩ := h
  obtain ⟨as, ra⟩ := hx.reads I rx
  obtain ⟨bs, rb⟩ := hy.reads I ry
  exact SeqAt.compareEq_reads ra rb od.1 oe.1 (by have := od.2; omega) ⟨.bl _, H, I, rfl, q⟩
theorem op_neD (hu : X.A.units + 64 < cLine) : OpR X (compareOp .NotEq) (rEqD true) := by
  intro pins s σ H x y v u Q I rx ry h
  obtain ⟨d, e, hx, hy, od, oe, q⟩ := h
  obtain ⟨as, ra⟩ := hx.reads I rx
  obtain ⟨bs, rb⟩ := hy.reads I ry
  exact SeqAt.compareNe_reads ra rb od.1 oe.1 (by have := od.2; omega) ⟨.bl _, H, I, rfl, q⟩
noncomputable def inD (d : PyData) (ds : List PyData) : Bool := ds.any fun y => PyData.eqv y d
noncomputable def rInD (neg : Bool) : R2 := fun x y H Q => ∃ d ds, Is H x d ∧ (Is H y (.tuple ds) ∨ Is H y (.list ds)) ∧ okD d ∧ okDs ds ∧ Q (.bl (if neg then !inD d ds else inD d ds)) H
theorem op_inD (hu : X.A.units + 64 < cLine) : OpR X (compareOp .In) (rInD false) := by
  intro pins s σ H x y v u Q I rx ry h
  obtain ⟨d, ds, hx, hy, od, oe, q⟩ := h
  obtain ⟨as, ra⟩ := hx.reads I rx
  rcases hy with hy | hy
  · obtain ⟨bs, rb⟩ := hy.reads I ry
    exact SeqAt.in_tuple_reads rb ra oe.1 od.1 (by have := od.2; omega) ⟨.bl _, H, I, rfl, q⟩
  · obtain ⟨bs, rb⟩ := hy.reads I ry
    exact SeqAt.in_list_reads rb ra oe.1 od.1 (by have := od.2; omega) ⟨.bl _, H, I, rfl, q⟩
theorem op_notInD (hu : X.A.units + 64 < cLine) : OpR X (compareOp .NotIn) (rInD true) := by
  intro pins s σ H x y v u Q I rx ry h
  obtain ⟨d, ds, hx, hy, od, oe, q⟩ := h
  obtain ⟨as, ra⟩ := hx.reads I rx
  rcases hy with hy | hy
  · obtain ⟨bs, rb⟩ := hy.reads I ry
    exact SeqAt.notIn_tuple_reads rb ra oe.1 od.1 (by have := od.2; omega) ⟨.bl _, H, I, rfl, q⟩
  · obtain ⟨bs, rb⟩ := hy.reads I ry
    exact SeqAt.notIn_list_reads rb ra oe.1 od.1 (by have := od.2; omega) ⟨.bl _, H, I, rfl, q⟩
end
/-! ### isinstance -/
noncomputable def tyD : PyData → String
  | .none => "NoneType"
  | .bool _ => "bool"
  | .int _ => "int"
  | .str _ => "str"
  | .list _ => "list"
  | .tuple _ => "tuple"
  | .dict _ => "dict"
theorem Is.ty {K : PySem.W.Frag} {H : Hp} {v : V} {d : PyData} (h : Is H v d) : TyOf K H v (.type (tyD d)) := by
  cases h with
  | non => exact .non
  | bl b => exact .bl b
  | int i => exact .int i
  | str x => exact .str x
  | tup e _ => exact .tup e
  | lst e _ =>
    rcases e with e | ⟨o, e⟩
    · exact .lst e
    · exact .frz e
noncomputable def isTy (T : String) (d : PyData) : Bool := tyD d == T || (T == "int" && tyD d == "bool")
theorem kit_bool {K : PySem.W.Frag} (d : PyData) : PySem.W.kitOne K (.type (tyD d)) (.type "bool") = some (isTy "bool" d) := by cases d <;> with_unfolding_all rfl
theorem kit_int {K : PySem.W.Frag} (d : PyData) : PySem.W.kitOne K (.type (tyD d)) (.type "int") = some (isTy "int" d) := by cases d <;> with_unfolding_all rfl
theorem kit_tuple {K : PySem.W.Frag} (d : PyData) : PySem.W.kitOne K (.type (tyD d)) (.type "tuple") = some (isTy "tuple" d) := by cases d <;> with_unfolding_all rfl
theorem kit_list {K : PySem.W.Frag} (d : PyData) : PySem.W.kitOne K (.type (tyD d)) (.type "list") = some (isTy "list" d) := by cases d <;> with_unfolding_all rfl
theorem kit_str {K : PySem.W.Frag} (d : PyData) : PySem.W.kitOne K (.type (tyD d)) (.type "str") = some (isTy "str" d) := by cases d <;> with_unfolding_all rfl
theorem kit_dict {K : PySem.W.Frag} (d : PyData) : PySem.W.kitOne K (.type (tyD d)) (.type "dict") = some (isTy "dict" d) := by cases d <;> with_unfolding_all rfl
section
variable {X : Cx}
theorem call_isinst : CallR X (.builtin "isinstance") (fun xs H Q => ∃ x T d, xs = [x, .ty T] ∧ T ∈ (["bool", "int", "tuple", "list", "str", "dict"] : List String) ∧ Is H x d ∧ Q (.bl (isTy T d)) H) := by
  intro pins s σ H xs us Q I r h
  obtain ⟨x, T, d, rfl, hT, hx, q⟩ := h
  obtain ⟨u, v, rfl, rx, ry⟩ := Vals.two r
  cases (show v = Value.type T from ry)
  have fin : ∀ {b : Bool}, PySem.W.kitOne X.K (.type (tyD d)) (.type T) = some b → b = isTy T d → wpAny (model X.prog X.w) X.A (call (.builtin "isinstance") [u, .type T]) (EP X pins σ Q) X.xe s := fun {b} e eb => by
    subst eb
    exact isinst_ok I rx hx.ty e fun tk => ⟨.bl _, H, I.tok tk, rfl, q⟩
  simp only [List.mem_cons, List.not_mem_nil, or_false] at hT
  rcases hT with rfl | rfl | rfl | rfl | rfl | rfl
  · exact fin (kit_bool d) rfl
  · exact fin (kit_int d) rfl
  · exact fin (kit_tuple d) rfl
  · exact fin (kit_list d) rfl
  · exact fin (kit_str d) rfl
  · exact fin (kit_dict d) rfl
end
end L2

set_option Elab.async false
set_option linter.all false
set_option maxRecDepth 100000
set_option maxHeartbeats 1000000
namespace L2
open PySem PySem.Spec PyProof.Rows
/-! ### the sort's own tree, where the answers are a strict order -/
noncomputable def Run {α : Type} (lt : Nat → Nat → Bool) (n : Nat) : PySem.W.KasT α → (α → Prop) → Prop
  | .ret a, Q => Q a
  | .ask i j k, Q => i < n ∧ j < n ∧ Run lt n (k (lt i j)) Q
section
variable {lt : Nat → Nat → Bool} {n : Nat}
theorem Run.mono {α : Type} {Q Q' : α → Prop} (h : ∀ a, Q a → Q' a) : ∀ {t : PySem.W.KasT α}, Run lt n t Q → Run lt n t Q'
  | .ret a, q => h a q
  | .ask i j k, ⟨a, b, q⟩ => ⟨a, b, Run.mono h q⟩
theorem Run.bind {α β : Type} {f : α → PySem.W.KasT β} {Q : β → Prop} : ∀ {t : PySem.W.KasT α}, Run lt n t (fun a => Run lt n (f a) Q) → Run lt n (t.bind f) Q
  | .ret a, q => q
  | .ask i j k, ⟨a, b, q⟩ => ⟨a, b, Run.bind q⟩
theorem Run.wp {α : Type} {cmp : Nat → Nat → (Bool → Shared → Prop) → Shared → Prop} {Q : α → Prop} {R : α → Shared → Prop} {s : Shared} (hc : ∀ i j C, i < n → j < n → C (lt i j) s → cmp i j C s) (hR : ∀ a, Q a → R a s) :
    ∀ {t : PySem.W.KasT α}, Run lt n t Q → t.kasWp cmp R s
  | .ret a, q => hR a q
  | .ask i j k, ⟨a, b, q⟩ => hc i j _ a b (Run.wp hc hR q)
/-- a strict order of the first n -/
structure Str1 (lt : Nat → Nat → Bool) (n : Nat) : Prop where
  tr : ∀ i j k, i < n → j < n → k < n → lt i j = true → lt j k = true → lt i k = true
  tot : ∀ i j, i < n → j < n → i ≠ j → lt i j = false → lt j i = true
  irr : ∀ i j, i < n → j < n → lt i j = true → lt j i = false
/-- places of the first n, each once -/
structure Plc (n : Nat) (p : Array Nat) : Prop where
  sz : p.size = n
  lt : ∀ i, i < n → p.getD i 0 < n
  ne : ∀ i j, i < n → j < n → i ≠ j → p.getD i 0 ≠ p.getD j 0
  pm : p.toList.Perm (List.range n)
noncomputable def Up (lt : Nat → Nat → Bool) (p : Array Nat) (k : Nat) : Prop := ∀ i j, i < j → j < k → lt (p.getD i 0) (p.getD j 0) = true
noncomputable def Dn (lt : Nat → Nat → Bool) (p : Array Nat) (k : Nat) : Prop := ∀ i j, i < j → j < k → lt (p.getD j 0) (p.getD i 0) = true
variable (S : Str1 lt n)
include S
theorem up_next {p : Array Nat} {k : Nat} (P : Plc n p) (h1 : 1 ≤ k) (hk : k < n) (u : Up lt p k) (h : lt (p.getD (k - 1) 0) (p.getD k 0) = true) : Up lt p (k + 1) := fun i j hij hj => by
  by_cases e : j = k
  · subst e
    by_cases e2 : i = j - 1
    · subst e2; exact h
    · exact S.tr _ _ _ (P.lt _ (by omega)) (P.lt _ (by omega)) (P.lt _ (by omega)) (u i (j - 1) (by omega) (by omega)) h
  · exact u i j hij (by omega)
theorem dn_next {p : Array Nat} {k : Nat} (P : Plc n p) (h1 : 1 ≤ k) (hk : k < n) (u : Dn lt p k) (h : lt (p.getD k 0) (p.getD (k - 1) 0) = true) : Dn lt p (k + 1) := fun i j hij hj => by
  by_cases e : j = k
  · subst e
    by_cases e2 : i = j - 1
    · subst e2; exact h
    · exact S.tr _ _ _ (P.lt _ (by omega)) (P.lt _ (by omega)) (P.lt _ (by omega)) h (u i (j - 1) (by omega) (by omega))
  · exact u i j hij (by omega)
theorem run_asc {p : Array Nat} (P : Plc n p) : ∀ (f k : Nat), 1 ≤ k → k + f ≤ n → Up lt p k → Run lt n (PySem.W.kas_asc p f k) fun r => k ≤ r ∧ r ≤ k + f ∧ Up lt p r ∧ (r < k + f → lt (p.getD r 0) (p.getD (r - 1) 0) = true)
  | 0, k, _, _, u => ⟨Nat.le_refl _, Nat.le_refl _, u, fun h => absurd h (Nat.lt_irrefl _)⟩
  | f + 1, k, h1, hn, u => by
    refine ⟨P.lt _ (by omega), P.lt _ (by omega), ?_⟩
    cases c : lt (p.getD k 0) (p.getD (k - 1) 0) with
    | true => exact ⟨Nat.le_refl _, by omega, u, fun _ => c⟩
    | false =>
      have c' := S.tot _ _ (P.lt _ (by omega)) (P.lt _ (by omega)) (P.ne k (k - 1) (by omega) (by omega) (by omega)) c
      exact (run_asc P f (k + 1) (by omega) (by omega) (up_next S P h1 (by omega) u c')).mono fun r ⟨a, b, c, d⟩ => ⟨by omega, by omega, c, fun h => d (by omega)⟩
theorem run_desc {p : Array Nat} (P : Plc n p) : ∀ (f k : Nat), 1 ≤ k → k + f ≤ n → Dn lt p k → Run lt n (PySem.W.kas_desc f p k 0) fun r => r.1 = p ∧ r.2.2 = 0 ∧ k ≤ r.2.1 ∧ r.2.1 ≤ k + f ∧ Dn lt p r.2.1
  | 0, k, _, _, u => ⟨rfl, rfl, Nat.le_refl _, Nat.le_refl _, u⟩
  | f + 1, k, h1, hn, u => by
    refine ⟨P.lt _ (by omega), P.lt _ (by omega), ?_⟩
    cases c : lt (p.getD k 0) (p.getD (k - 1) 0) with
    | true =>
      show Run lt n (if (0 : Nat) > 0 then PySem.W.kas_desc f (PySem.W.kas_rev p (k - (0 + 1)) k) (k + 1) 0 else PySem.W.kas_desc f p (k + 1) 0) _
      rw [if_neg (Nat.lt_irrefl 0)]
      exact (run_desc P f (k + 1) (by omega) (by omega) (dn_next S P h1 (by omega) u c)).mono fun r ⟨a, b, c, d, e⟩ => ⟨a, b, by omega, by omega, e⟩
    | false =>
      have c' := S.tot _ _ (P.lt _ (by omega)) (P.lt _ (by omega)) (P.ne k (k - 1) (by omega) (by omega) (by omega)) c
      refine ⟨P.lt _ (by omega), P.lt _ (by omega), ?_⟩
      rw [c']
      exact ⟨rfl, rfl, Nat.le_refl _, Nat.le_add_right _ _, u⟩
omit S in
theorem getD_rev {p : Array Nat} {k : Nat} (hk : k ≤ p.size) (i : Nat) : (PySem.W.kas_rev p 0 k).getD i 0 = if i < k then p.getD (k - 1 - i) 0 else p.getD i 0 := by
  have e : ∀ (q : Array Nat) (i : Nat), q.getD i 0 = (q[i]?).getD 0 := fun q i => by
    by_cases h : i < q.size
    · simp [Array.getD, h]
    · simp [Array.getD, h]
  rw [e, e, e]
  unfold PySem.W.kas_rev
  rw [getElem?_mirror hk _ (by omega)]
  by_cases h : i < k
  · rw [if_pos h]
    by_cases h2 : (0 ≤ i ∧ i < 0 + (k - 0) / 2) ∨ (k - (k - 0) / 2 ≤ i ∧ i < k)
    · rw [if_pos h2]
      congr 2
      omega
    · rw [if_neg h2]
      have : k - 1 - i = i := by omega
      rw [this]
  · rw [if_neg h, if_neg (by omega)]
omit S in
theorem rev_plc {p : Array Nat} (P : Plc n p) {k : Nat} (hk : k ≤ n) : Plc n (PySem.W.kas_rev p 0 k) where
  sz := (mirror_size _ _ _ _).trans P.sz
  lt := fun i hi => by
    rw [getD_rev (by rw [P.sz]; exact hk)]
    split
    · exact P.lt _ (by omega)
    · exact P.lt _ hi
  ne := fun i j hi hj hne => by
    rw [getD_rev (by rw [P.sz]; exact hk), getD_rev (by rw [P.sz]; exact hk)]
    split <;> split <;> exact P.ne _ _ (by omega) (by omega) (by omega)
  pm := (Array.perm_iff_toList_perm.mp (mirror_perm _ _ _ _)).trans P.pm
omit S in
theorem rev_up {p : Array Nat} (P : Plc n p) {k : Nat} (hk : k ≤ n) (d : Dn lt p k) : Up lt (PySem.W.kas_rev p 0 k) k := fun i j hij hj => by
  rw [getD_rev (by rw [P.sz]; exact hk), getD_rev (by rw [P.sz]; exact hk), if_pos (by omega), if_pos hj]
  exact d _ _ (by omega) (by omega)
theorem run_tail3 {p : Array Nat} (P : Plc n p) {k : Nat} (h1 : 1 ≤ k) (hk : k ≤ n) (d : Dn lt p k) : Run lt n (PySem.W.kas_tail3 k n p) fun r => 1 ≤ r.1 ∧ r.1 ≤ n ∧ Plc n r.2 ∧ Up lt r.2 r.1 := by
  unfold PySem.W.kas_tail3
  refine Run.bind ((run_asc S (rev_plc P hk) (n - k) k h1 (by omega) (rev_up P hk d)).mono fun r ⟨a, b, c, _⟩ => ?_)
  exact ⟨by omega, by omega, rev_plc P hk, c⟩
theorem run_count {p : Array Nat} (P : Plc n p) (h1 : 1 ≤ n) : Run lt n (PySem.W.kas_count n p) fun r => 1 ≤ r.1 ∧ r.1 ≤ n ∧ Plc n r.2 ∧ Up lt r.2 r.1 := by
  unfold PySem.W.kas_count
  refine Run.bind ((run_asc S P (n - 1) 1 (Nat.le_refl _) (by omega) (fun i j hij hj => by omega)).mono fun r ⟨a, b, u, c⟩ => ?_)
  by_cases hr : (r == n) = true
  · rw [if_pos hr]
    exact ⟨a, by omega, P, u⟩
  · rw [if_neg hr]
    have hr' : r ≠ n := by simpa using hr
    by_cases h2 : r > 1
    · rw [if_pos h2]
      refine ⟨P.lt _ (by omega), P.lt _ (by omega), ?_⟩
      rw [u 0 (r - 1) (by omega) (by omega)]
      exact ⟨a, by omega, P, u⟩
    · rw [if_neg h2]
      have er : r = 1 := by omega
      subst er
      unfold PySem.W.kas_descPart
      have c0 := c (by omega)
      have d2 : Dn lt p 2 := fun i j hij hj => by
        have ei : i = 0 := by omega
        have ej : j = 1 := by omega
        subst ei ej
        exact c0
      refine Run.bind ((run_desc S P (n - (1 + 1)) (1 + 1) (by omega) (by omega) d2).mono fun q ⟨e1, e2, e3, e4, e5⟩ => ?_)
      rw [e2, if_neg (Nat.lt_irrefl 0), e1]
      exact run_tail3 S P (by omega) (by omega) e5
theorem run_place {p : Array Nat} (P : Plc n p) {k : Nat} (hk : k < n) : ∀ (f l r : Nat), r ≤ l + f → l ≤ r → r ≤ k → (∀ i, i < l → lt (p.getD i 0) (p.getD k 0) = true) → (∀ i, r ≤ i → i < k → lt (p.getD k 0) (p.getD i 0) = true) → Up lt p k →
    Run lt n (PySem.W.kas_place p k f l r) fun x => x ≤ k ∧ (∀ i, i < x → lt (p.getD i 0) (p.getD k 0) = true) ∧ (∀ i, x ≤ i → i < k → lt (p.getD k 0) (p.getD i 0) = true)
  | 0, l, r, h1, h2, h3, hl, hr, _ => by
    have e : l = r := by omega
    subst e
    exact ⟨h3, hl, hr⟩
  | f + 1, l, r, h1, h2, h3, hl, hr, u => by
    unfold PySem.W.kas_place
    by_cases h : l ≥ r
    · rw [if_pos h]
      have e : l = r := by omega
      subst e
      exact ⟨h3, hl, hr⟩
    · rw [if_neg h]
      refine ⟨P.lt _ (by omega), P.lt _ (by omega), ?_⟩
      cases c : lt (p.getD k 0) (p.getD ((l + r) / 2) 0) with
      | true =>
        refine run_place P hk f l ((l + r) / 2) (by omega) (by omega) (by omega) hl (fun i hi1 hi2 => ?_) u
        by_cases e : i = (l + r) / 2
        · subst e; exact c
        · exact S.tr _ _ _ (P.lt _ (by omega)) (P.lt _ (by omega)) (P.lt _ (by omega)) c (u _ _ (by omega) (by omega))
      | false =>
        have c' := S.tot _ _ (P.lt _ (by omega)) (P.lt _ (by omega)) (P.ne k ((l + r) / 2) (by omega) (by omega) (by omega)) c
        refine run_place P hk f ((l + r) / 2 + 1) r (by omega) (by omega) h3 (fun i hi => ?_) hr u
        by_cases e : i = (l + r) / 2
        · subst e; exact c'
        · exact S.tr _ _ _ (P.lt _ (by omega)) (P.lt _ (by omega)) (P.lt _ (by omega)) (u _ _ (by omega) (by omega)) c'
omit S in
theorem getD_bubble {p : Array Nat} {k d : Nat} (hk : k < p.size) (hd : d ≤ k) (i : Nat) : (bubble p k d).getD i 0 = if i = k - d then p.getD k 0 else if k - d < i ∧ i ≤ k then p.getD (i - 1) 0 else p.getD i 0 := by
  have e : ∀ (q : Array Nat) (i : Nat), q.getD i 0 = (q[i]?).getD 0 := fun q i => by
    by_cases h : i < q.size
    · simp [Array.getD, h]
    · simp [Array.getD, h]
  rw [e, e, e, e, getElem?_bubble hk d hd]
  split
  · rfl
  · split <;> rfl
omit S in
theorem bubble_plc {p : Array Nat} (P : Plc n p) {k d : Nat} (hk : k < n) (hd : d ≤ k) : Plc n (bubble p k d) where
  sz := (bubble_size _ _ _).trans P.sz
  lt := fun i hi => by
    rw [getD_bubble (by rw [P.sz]; exact hk) hd]
    split
    · exact P.lt _ hk
    · split
      · exact P.lt _ (by omega)
      · exact P.lt _ hi
  ne := fun i j hi hj hne => by
    rw [getD_bubble (by rw [P.sz]; exact hk) hd, getD_bubble (by rw [P.sz]; exact hk) hd]
    split <;> split <;> first | (split <;> first | exact P.ne _ _ (by omega) (by omega) (by omega) | (split <;> exact P.ne _ _ (by omega) (by omega) (by omega))) | exact P.ne _ _ (by omega) (by omega) (by omega) | omega
  pm := (Array.perm_iff_toList_perm.mp (bubble_perm _ _ _)).trans P.pm
theorem run_bin : ∀ (f : Nat) (p : Array Nat) (k : Nat), Plc n p → k + f = n → 1 ≤ k → Up lt p k → Run lt n (PySem.W.kas_bin f p k) fun q => Plc n q ∧ Up lt q n
  | 0, p, k, P, e, _, u => by
    have e' : k = n := by omega
    subst e'
    exact ⟨P, u⟩
  | f + 1, p, k, P, e, h1, u => by
    unfold PySem.W.kas_bin
    refine Run.bind ((run_place S P (by omega : k < n) k 0 k (by omega) (by omega) (Nat.le_refl _) (fun i hi => by omega) (fun i h1 h2 => by omega) u).mono fun l ⟨hl, ha, hb⟩ => ?_)
    have hp : k < p.size := by rw [P.sz]; omega
    refine run_bin f _ (k + 1) (bubble_plc P (by omega) (by omega)) (by omega) (by omega) fun i j hij hj => ?_
    rw [getD_bubble hp (by omega), getD_bubble hp (by omega)]
    have el : k - (k - l) = l := by omega
    rw [el]
    by_cases hi : i = l
    · rw [if_pos hi]
      rw [if_neg (by omega : ¬ j = l), if_pos (by omega)]
      exact hb _ (by omega) (by omega)
    · rw [if_neg hi]
      by_cases hj' : j = l
      · rw [if_pos hj', if_neg (by omega)]
        exact ha _ (by omega)
      · rw [if_neg hj']
        by_cases c1 : l < i ∧ i ≤ k
        · rw [if_pos c1, if_pos (by omega)]
          exact u _ _ (by omega) (by omega)
        · rw [if_neg c1]
          by_cases c2 : l < j ∧ j ≤ k
          · rw [if_pos c2]
            exact u _ _ (by omega) (by omega)
          · rw [if_neg c2]
            exact u _ _ (by omega) (by omega)
theorem run_sort (h1 : 1 ≤ n) : Run lt n (PySem.W.kas_sort n) fun q => Plc n q ∧ Up lt q n := by
  unfold PySem.W.kas_sort
  have P0 : Plc n (List.toArray (List.range n)) := by
    have e : ∀ i, i < n → (List.toArray (List.range n)).getD i 0 = i := fun i hi => by simp [Array.getD, hi]
    exact ⟨by simp, fun i hi => by rw [e i hi]; exact hi, fun i j hi hj hne => by rw [e i hi, e j hj]; exact hne, List.Perm.refl _⟩
  refine Run.bind ((run_count S P0 h1).mono fun r ⟨a, b, P, u⟩ => ?_)
  by_cases h : r.1 < n
  · rw [if_pos h]
    have em : max r.1 1 = r.1 := by omega
    rw [em]
    exact run_bin S _ _ _ P (by omega) a u
  · rw [if_neg h]
    have e : r.1 = n := by omega
    rw [e] at u
    exact ⟨P, u⟩
end
end L2

set_option Elab.async false
set_option linter.all false
set_option maxRecDepth 100000
set_option maxHeartbeats 1000000
namespace L2
open PySem PySem.Spec PyProof.Rows
theorem ns_one {h : Heap} {a : Addr} {m m' : Str → Option Value} (x : h.Ns a m) (y : h.Ns a m') : m = m' := by
  obtain ⟨o, es, ep, e, d, _, f⟩ := x
  obtain ⟨o', es', ep', e', d', _, f'⟩ := y
  rw [e] at e'; cases e'
  rw [d] at d'; cases d'
  funext z
  rw [← f z, ← f' z]
theorem ObjOk.there {P : Program} {w : World} {H : Hp} {h : Heap} {a : Addr} {o : HO} (x : ObjOk P w H h a o) : ∃ u, h.get? a = some u := by
  cases o with
  | lst xs => obtain ⟨_, _, _, _, e⟩ := x; exact ⟨_, e⟩
  | tup xs => obtain ⟨_, _, _, _, o, e, _⟩ := x; exact ⟨_, e⟩
  | dK kvs => obtain ⟨_, _, _, _, o, _, _, e, _⟩ := x; exact ⟨_, e⟩
  | dT kvs => obtain ⟨_, _, _, _, o, _, _, e, _⟩ := x; exact ⟨_, e⟩
  | set S n => obtain ⟨o, _, _, _, e, _⟩ := x; exact ⟨_, e⟩
  | ins C dx fs => obtain ⟨_, _, _, e, _⟩ := x; exact ⟨_, e⟩
  | own y => obtain ⟨_, e⟩ := x; exact ⟨_, e⟩
  | xd fs => obtain ⟨_, ⟨_, _, _, e, _⟩, _⟩ := x; exact ⟨_, e⟩
  | rng lo hi => obtain ⟨_, _, _, e⟩ := x; exact ⟨_, e⟩
  | frz ob u => obtain ⟨e, _⟩ := x; exact ⟨_, e⟩
  | tbl ps => exact ⟨_, show h.get? a = some _ from x⟩
  | met f y => exact ⟨_, show h.get? a = some _ from x⟩
  | ext φ => obtain ⟨_, ⟨_, e⟩, _⟩ := x; exact ⟨_, e⟩
section
variable {X : Cx} {pins : List (Addr × Obj)} {σ : St} {H : Hp} {s : Shared}
theorem Inv.none_of (I : Inv X pins σ H s) {a : Addr} (h : s.heap.get? a = none) : H a = none := by
  cases q : H a with
  | none => rfl
  | some o =>
    obtain ⟨u, e⟩ := (I.hok a o q).there
    rw [h] at e; cases e
/-- all objects but the frame are kept, the frame's map too; a new list is tracked -/
theorem Inv.laidBut {a : Addr} {xs : List V} {its : List Value} {n t' : Nat} {h' : Heap} {m : Str → Option Value} (I : Inv X pins σ H s) (k : ∀ b u, b ≠ X.env.locals → s.heap.get? b = some u → h'.get? b = some u) (hm : s.heap.Ns X.env.locals m) (hm' : h'.Ns X.env.locals m)
    (hp : s.heap.get? a = none) (rv : Vals xs its) (hz : xs.length ≤ sizeLine) (ho : h'.get? a = some { cls := .type "list", data := .seq its.toArray n }) : Inv X pins σ (upd H a (.lst xs)) { s with heap := h', toks := t' } := by
  have hn : H a = none := I.none_of hp
  have neL : ∀ b u, H b = some u → b ≠ X.env.locals := fun b u e z => by rw [z, I.free] at e; cases e
  refine I.step (g' := s.gens) (d' := s.drawn) (ch := []) (fun _ z => nomatch z) (fun b o h1 _ _ e _ => k b o h1 e) (fun b o h1 _ _ e _ => ⟨o.slots, k b o h1 e⟩)
    (fun b o _ e q => by rw [upd_ne (fun z => by rw [z, hp] at e; cases e)]; exact q) (fun b o _ e => ?_)
    (fun b xs q => by rw [upd_ne (ne_of_none q hn)]; exact q) (fun b o u q => by rw [upd_ne (ne_of_none q hn)]; exact q) (fun b ps q => ⟨#[], by rw [upd_ne (ne_of_none q hn), q]; simp⟩) (fun m2 h2 => ?_) (fun b u e => ?_) I.bare
  · by_cases hb : b = X.env.locals
    · subst hb
      obtain ⟨o', _, _, e', _⟩ := hm'
      exact ⟨o', e'⟩
    · exact ⟨o, k b o hb e⟩
  · rw [ns_one h2 hm]; exact hm'
  · by_cases hb : b = a
    · subst hb
      rw [upd_same] at e
      cases e
      exact ⟨hz, its, n, rv, ho⟩
    · rw [upd_ne hb] at e
      refine (I.hok b u e).stay (fun c v hc q => k c v ?_ q) (fun c q => by rw [upd_ne (ne_of_none q hn)]; exact q) fun c xs q => by rw [upd_ne (ne_of_none q hn)]; exact q
      rcases hc with rfl | hc
      · exact neL _ _ e
      · exact neL _ _ hc
end
/-! ### all, any over a list of bools -/
section
variable {X : Cx}
theorem bools_of : ∀ {bs : List Bool} {vs : List Value}, Vals (bs.map V.bl) vs → LSm.BoolsAre vs bs
  | [], _, .nil => .nil
  | b :: bs, _, .cons r t => by
    cases (show _ = Value.bool b from r)
    exact .cons b (bools_of t)
theorem call_all (hc : X.calm = true) : CallR X (.builtin "all") (fun xs H Q => ∃ (p : Addr) (bs : List Bool), xs = [.ref p] ∧ SqL X.K H p (bs.map V.bl) ∧ Q (.bl (bs.all id)) H) := by
  intro pins s σ H xs us Q I r h
  obtain ⟨p, bs, rfl, hq, q⟩ := h
  obtain ⟨u, rfl, rx⟩ := Vals.one r
  cases (show u = Value.ref p from rx)
  obtain ⟨its, rv, pl, hz⟩ := I.list hq
  obtain ⟨m, F⟩ := I.fr
  have hb := bools_of rv
  have hl : s.heap.IsList p its.toArray := pl.isList
  have hlt : p < s.heap.objs.size := by obtain ⟨_, e, _⟩ := hl; exact Heap.lt_size e
  refine call_all_walk (wpAny_pyIter_list hl ?_)
  refine ⟨s.heap.objs.size, [s.heap.objs.size, p], [s.heap.objs.size], its.toArray.size, _, _, fun i => (bs[i]?).getD true, rfl, Walks.list (A := X.A.in1) (I.ok.hd hc) _ p (Nat.ne_of_lt hlt) its.toArray,
    ⟨⟨_, Heap.get?_push_size _ rfl, rfl, rfl⟩, hl.push _⟩, fun i v s' Q' E' hP hQ => ?_, fun h' tk hk => ?_⟩
  · obtain ⟨b, e, rfl⟩ := hb.get i v (by simpa using hP)
    simp only [e, Option.getD_some] at hQ
    exact wpAny_truthy_bool hQ
  · have e : ((List.range its.toArray.size).all fun i => (bs[i]?).getD true) = bs.all id := by
      rw [List.size_toArray, hb.length]; exact LSm.range_all bs
    rw [e]
    exact ⟨.bl _, H, I.kept (LSm.kept_iter hk), rfl, q⟩
end
/-! ### sorted: a list of tuples, texts that all share ahead, then ints, no two alike -/
section
variable {prog : Program} {w : World} {A : Around} {E : Value → Shared → Prop} {s : Shared}
/-- what is collected of l: its items, laid in a new list -/
noncomputable def Col (prog : Program) (w : World) (s : Shared) (l : Addr) (vs : List Value) : Prop := ∀ (A : Around) (E : Value → Shared → Prop) (Q : List Value → Shared → Prop),
  Q vs { s with heap := (s.heap.push (seqObj "list" #[] 0)).update s.heap.objs.size (Obj.mapSeq (· ++ vs.toArray)) } → wpAny (model prog w) A (collect (.ref l)) Q E s
theorem Col.list {l : Addr} {vs : List Value} (hl : s.heap.IsList l vs.toArray) (hz : vs.length ≤ sizeLine) : Col prog w s l vs := fun _ _ _ h => collect_list hl h hz
theorem Col.tup {l : Addr} {vs : List Value} (hl : IsTup s.heap l vs.toArray) (hz : vs.length ≤ sizeLine) : Col prog w s l vs := by
  intro A E Q h
  obtain ⟨o, ho, hc, n, hd⟩ := hl
  have ho' : (s.heap.push (seqObj "list" #[] 0)).get? l = some o := Heap.get?_push_of_some _ ho
  have e0 : ((#[] : Array Value) ++ vs.toArray).toList = vs := by simp
  unfold collect
  refine wpAny_bind (wpAny_runValue (codeAny_builtin entry_proto_collect' ?_))
  show wpAny _ _ (do again (.builtin "list.__iadd__" ⟨[← newList [], .ref l], []⟩)) _ _ s
  refine wpAny_bind (wpAny_newList (wpAny_pure ⟨Code.quiet_builtin _ (by decide +kernel), codeAny_builtin entry_list_iadd' ?_⟩))
  show wpAny _ _ (Builtin.List.listExtendWith (.ref s.heap.objs.size) (.ref l) (.ref s.heap.objs.size)) _ _ { s with heap := s.heap.push (seqObj "list" #[] 0) }
  unfold Builtin.List.listExtendWith
  refine wpAny_bind (wpAny_typeOf (T := "tuple") ⟨o, ho', hc⟩ ?_)
  have ht2 : (Value.type "tuple" == Value.type "tuple") = true := by rfl
  rw [if_pos (by rw [ht2]; simp)]
  refine wpAny_bind (listItems_at ho' hd ?_)
  refine wpAny_bind (listItems_at (xs := #[]) (n := 0) (Heap.get?_push_size _ rfl) rfl ?_)
  rw [if_neg (by simp)]
  refine wpAny_bind (listUpdate_at (xs := #[]) (n := 0) (Heap.get?_push_size _ rfl) rfl ?_ (Nat.zero_le _) (Nat.le_trans (Nat.le_of_eq (by rw [← Array.length_toList, e0])) (Nat.le_succ_of_le hz)))
  refine wpAny_pure ?_
  show wpAny (model prog w) A (do
      let ob ← load s.heap.objs.size
      match ob.data with
      | .seq xs _ => pure xs.toList
      | _ => unsupported "internal:collect") Q E { s with heap := (s.heap.push (seqObj "list" #[] 0)).update s.heap.objs.size (Obj.mapSeq (· ++ vs.toArray)) }
  refine wpAny_bind (wpAny_load (get?_update_seq (Heap.get?_push_size _ rfl) _) ?_)
  show wpAny _ _ (pure ((#[] : Array Value) ++ vs.toArray).toList) Q E _
  rw [e0]
  exact wpAny_pure h
theorem sorted_many {l : Addr} {vs : List Value} {Q : Value → Shared → Prop} {h₀ : Heap} {L : Addr} {m : Str → Option Value} {news : List (Addr × Obj)} (F : Fr h₀ L s.heap m) (N : News h₀ L s.heap news) (hl : Col prog w s l vs) (h2 : 2 ≤ vs.length) (h64 : vs.length < 64)
    (h : ∀ D e1 h', Fr h₀ L h' m → News h₀ L h' ((D, seqObj "list" #[] e1) :: news) → (∀ q ∈ news, q.1 < D) →
      wpAny (model prog w) A.in1.in1 (keyKind' vs.toArray) (fun κ s' => (PySem.W.kas_sort vs.length).kasWp (PySem.W.kas_ask prog w A.in1.in1 κ vs) (fun p s'' => PySem.W.KasFin h₀ L m D e1 (p.toList.map fun i => vs.getD i Value.none) (fun s3 => Q (.ref D) s3) s'') s') (fun _ _ => False) { s with heap := h' }) :
    wpAny (model prog w) A (call (.builtin "sorted") [.ref l]) Q E s := by
  have hsl : vs.length ≤ sizeLine := by rw [sizeLine_eq]; omega
  refine Calls.call_function_entry kind_sorted plain_sorted entry_sorted (args_sorted1 _) ?_
  unfold Builtin.«sorted»
  refine wpAny_bind (m := checkCount "sorted" 1 1 _) (wpAny_pure ?_)
  refine wpAny_bind (hl _ _ _ ?_)
  refine wpAny_bind (wpAny_newList ?_ hsl)
  have hsz : ((s.heap.push (seqObj "list" #[] 0)).update s.heap.objs.size (Obj.mapSeq (· ++ vs.toArray))).objs.size = s.heap.objs.size + 1 := by
    rw [Heap.size_update, size_push']
  have hoL : (((s.heap.push (seqObj "list" #[] 0)).update s.heap.objs.size (Obj.mapSeq (· ++ vs.toArray))).push (seqObj "list" vs.toArray 0)).get? (s.heap.objs.size + 1) = some (seqObj "list" vs.toArray 0) := by
    rw [← hsz]; exact Heap.get?_push_size _ rfl
  have keep : ∀ b o, s.heap.get? b = some o → (((s.heap.push (seqObj "list" #[] 0)).update s.heap.objs.size (Obj.mapSeq (· ++ vs.toArray))).push (seqObj "list" vs.toArray 0)).get? b = some o := fun b o q => by
    have hlt : b < s.heap.objs.size := Heap.lt_size q
    rw [Heap.get?_push_ne _ _ _ (by rw [hsz]; exact Nat.ne_of_lt (Nat.lt_succ_of_lt hlt)), Heap.get?_update_ne _ _ _ _ (Nat.ne_of_lt hlt), Heap.get?_push_ne _ _ _ (Nat.ne_of_lt hlt)]
    exact q
  have hL : L < s.heap.objs.size := F.ns.lt
  show wpAny _ _ _ _ _ { s with heap := ((s.heap.push (seqObj "list" #[] 0)).update s.heap.objs.size (Obj.mapSeq (· ++ vs.toArray))).push (seqObj "list" vs.toArray 0) }
  rw [hsz]
  refine wpAny_bind (wpAny_holding (wpAny_call_entry slot_list_sort ⟨_, hoL, rfl⟩ entry_list_sort ?body (args_list_sort _)))
  case body =>
    refine PySem.W.kat_list_sort (s := { s with heap := ((s.heap.push (seqObj "list" #[] 0)).update s.heap.objs.size (Obj.mapSeq (· ++ vs.toArray))).push (seqObj "list" vs.toArray 0) })
      (F.kept keep) (N.grown keep) hoL (Nat.ne_of_gt (Nat.lt_succ_of_lt hL)) (Heap.get?_none_of_le (Nat.le_trans F.above (Nat.le_succ_of_le (Nat.le_of_lt hL))))
      (fun p hp => Nat.ne_of_lt (Nat.lt_succ_of_lt (Heap.lt_size (N p hp).1))) h2 h64 fun e1 h' F' N' => ?_
    refine wpAny_mono (h _ e1 h' F' N' fun q hq => Nat.lt_succ_of_lt (Heap.lt_size (N q hq).1)) (fun κ s' hk => ?_) fun _ _ x => x
    rw [PySem.W.kat_ask_eq rfl] at hk ⊢
    exact PySem.W.kas_wp_mono hk fun p s'' hk' => hk'.mono fun s3 hq => ⟨_, rfl, wpAny_pure ⟨_, rfl, hq⟩⟩
theorem sorted_few {l : Addr} {vs : List Value} {Q : Value → Shared → Prop} (hl : Col prog w s l vs) (h2 : vs.length < 2)
    (h : ∀ D h' n, s.heap.objs.size ≤ D → (∀ b o, s.heap.get? b = some o → h'.get? b = some o) → h'.get? D = some { cls := .type "list", data := .seq vs.toArray n } → Q (.ref D) { s with heap := h' }) :
    wpAny (model prog w) A (call (.builtin "sorted") [.ref l]) Q E s := by
  have hsl : vs.length ≤ sizeLine := by rw [sizeLine_eq]; omega
  refine Calls.call_function_entry kind_sorted plain_sorted entry_sorted (args_sorted1 _) ?_
  unfold Builtin.«sorted»
  refine wpAny_bind (m := checkCount "sorted" 1 1 _) (wpAny_pure ?_)
  refine wpAny_bind (hl _ _ _ ?_)
  refine wpAny_bind (wpAny_newList ?_ hsl)
  have hsz : ((s.heap.push (seqObj "list" #[] 0)).update s.heap.objs.size (Obj.mapSeq (· ++ vs.toArray))).objs.size = s.heap.objs.size + 1 := by
    rw [Heap.size_update, size_push']
  have hoL : (((s.heap.push (seqObj "list" #[] 0)).update s.heap.objs.size (Obj.mapSeq (· ++ vs.toArray))).push (seqObj "list" vs.toArray 0)).get? (s.heap.objs.size + 1) = some (seqObj "list" vs.toArray 0) := by
    rw [← hsz]; exact Heap.get?_push_size _ rfl
  have keep : ∀ b o, s.heap.get? b = some o → (((s.heap.push (seqObj "list" #[] 0)).update s.heap.objs.size (Obj.mapSeq (· ++ vs.toArray))).push (seqObj "list" vs.toArray 0)).get? b = some o := fun b o q => by
    have hlt : b < s.heap.objs.size := Heap.lt_size q
    rw [Heap.get?_push_ne _ _ _ (by rw [hsz]; exact Nat.ne_of_lt (Nat.lt_succ_of_lt hlt)), Heap.get?_update_ne _ _ _ _ (Nat.ne_of_lt hlt), Heap.get?_push_ne _ _ _ (Nat.ne_of_lt hlt)]
    exact q
  show wpAny _ _ _ _ _ { s with heap := ((s.heap.push (seqObj "list" #[] 0)).update s.heap.objs.size (Obj.mapSeq (· ++ vs.toArray))).push (seqObj "list" vs.toArray 0) }
  rw [hsz]
  generalize ((s.heap.push (seqObj "list" #[] 0)).update s.heap.objs.size (Obj.mapSeq (· ++ vs.toArray))).push (seqObj "list" vs.toArray 0) = g at hoL keep ⊢
  refine wpAny_bind (wpAny_holding (wpAny_call_entry slot_list_sort ⟨_, hoL, rfl⟩ entry_list_sort ?body (args_list_sort _)))
  case body =>
    rw [list_sort_plain]
    have ha : s.heap.objs.size + 1 < g.objs.size := Heap.lt_size hoL
    refine wpAny_bind (listItems_at hoL rfl ?_)
    refine wpAny_bind (listUpdate_at hoL rfl ?_ (by rw [List.size_toArray]; exact hsl) (Nat.zero_le _))
    obtain ⟨e1, ho1⟩ : ∃ e1, (g.update (s.heap.objs.size + 1) (Obj.mapSeq fun _ => (#[] : Array Value))).get? (s.heap.objs.size + 1) = some (seqObj "list" #[] e1) := ⟨_, get?_update_seq hoL (fun _ => #[])⟩
    refine wpAny_bind (seqEpoch_at ho1 rfl ?_)
    refine wpAny_bind (wpAny_newTuple ?_ hsl)
    refine wpAny_bind (wpAny_newList ?_ (Nat.zero_le _))
    refine wpAny_holding ?_
    have ho6 : (((g.update (s.heap.objs.size + 1) (Obj.mapSeq fun _ => (#[] : Array Value))).push (seqObj "tuple" vs.toArray 0)).push (seqObj "list" #[] 0)).get? (s.heap.objs.size + 1) = some (seqObj "list" #[] e1) := by
      rw [Heap.get?_push_ne _ _ _ (by rw [size_push', Heap.size_update]; exact Nat.ne_of_lt (Nat.lt_succ_of_lt ha)), Heap.get?_push_ne _ _ _ (by rw [Heap.size_update]; exact Nat.ne_of_lt ha)]
      exact ho1
    show wpAny (model prog w) _ _ _ _ { s with heap := ((g.update (s.heap.objs.size + 1) (Obj.mapSeq fun _ => (#[] : Array Value))).push (seqObj "tuple" vs.toArray 0)).push (seqObj "list" #[] 0) }
    dsimp only
    have h2' : vs.toArray.size < 2 := by simpa using h2
    rw [if_pos h2', if_pos h2']
    refine wpAny_bind (wpAny_pure ?_)
    rw [StateT.run_pure]
    refine wpAny_bind (wpAny_pure ?_)
    dsimp only
    refine wpAny_bind (seqEpoch_at ho6 rfl ?_)
    have earr : (arrOf (SortSt.mk' general' (vs.toArray.zip vs.toArray) #[] 7 none)).map (·.2) = vs.toArray := by
      show (pairsOf vs).map (·.2) = vs.toArray
      apply Array.toList_inj.mp
      rw [Array.toList_map, pairsOf_toList]
      have e : ∀ l : List Value, (l.zip l).map (·.2) = l := fun l => by
        induction l with
        | nil => rfl
        | cons a r ih => rw [List.zip_cons_cons, List.map_cons, ih]
      rw [e]
    refine wpAny_bind (listUpdate_at ho6 rfl ?_ (Nat.zero_le _) (hsz2 := by rw [earr, List.size_toArray]; exact Nat.le_succ_of_le hsl))
    simp only [bne_self_eq_false, Bool.false_eq_true, if_false]
    refine wpAny_pure ⟨_, rfl, wpAny_pure ⟨_, rfl, ?_⟩⟩
    have s2 := get?_update_seq ho6 fun _ => vs.toArray
    rw [earr]
    refine h _ _ _ (Nat.le_succ _) (fun b o q => ?_) s2
    have hlt : b < s.heap.objs.size := Heap.lt_size q
    have hlt2 : b < g.objs.size := Heap.lt_size (keep b o q)
    rw [Heap.get?_update_ne _ _ _ _ (Nat.ne_of_lt (Nat.lt_succ_of_lt hlt)), Heap.get?_push_ne _ _ _ (by rw [size_push', Heap.size_update]; exact Nat.ne_of_lt (Nat.lt_succ_of_lt hlt2)), Heap.get?_push_ne _ _ _ (by rw [Heap.size_update]; exact Nat.ne_of_lt hlt2),
      Heap.get?_update_ne _ _ _ _ (Nat.ne_of_lt (Nat.lt_succ_of_lt hlt))]
    exact keep b o q
end
end L2

set_option Elab.async false
set_option linter.all false
set_option maxRecDepth 100000
set_option maxHeartbeats 1000000
namespace L2
open PySem PySem.Spec PyProof.Rows
/-! ### lists of ints in their order -/
theorem lex_asym : ∀ {a b : List Int}, HT.lexLt a b = true → HT.lexLt b a = false
  | [], [], h => by cases h
  | [], _ :: _, _ => rfl
  | _ :: _, [], h => by cases h
  | x :: a, y :: b, h => by
    rw [HT.lexLt_cons] at h ⊢
    by_cases e : x = y
    · rw [if_pos e] at h
      rw [if_pos e.symm]
      exact lex_asym h
    · rw [if_neg e] at h
      rw [if_neg (Ne.symm e)]
      have := of_decide_eq_true h
      exact decide_eq_false (by omega)
theorem lex_tot : ∀ {a b : List Int}, a ≠ b → HT.lexLt a b = false → HT.lexLt b a = true
  | [], [], h, _ => (h rfl).elim
  | [], _ :: _, _, h => by cases h
  | _ :: _, [], _, _ => rfl
  | x :: a, y :: b, hne, h => by
    rw [HT.lexLt_cons] at h ⊢
    by_cases e : x = y
    · rw [if_pos e] at h
      rw [if_pos e.symm]
      exact lex_tot (fun z => hne (by rw [e, z])) h
    · rw [if_neg e] at h
      rw [if_neg (Ne.symm e)]
      have := of_decide_eq_false h
      exact decide_eq_true (by omega)
theorem lex_tr : ∀ {a b c : List Int}, HT.lexLt a b = true → HT.lexLt b c = true → HT.lexLt a c = true
  | [], _, [], h1, h2 => by
    rename_i b
    cases b
    · exact h1
    · cases h2
  | [], _, _ :: _, _, _ => rfl
  | _ :: _, [], _, h, _ => by cases h
  | _ :: _, _ :: _, [], _, h => by cases h
  | x :: a, y :: b, z :: c, h1, h2 => by
    rw [HT.lexLt_cons] at h1 h2 ⊢
    by_cases e1 : x = y
    · rw [if_pos e1] at h1
      by_cases e2 : y = z
      · rw [if_pos e2] at h2
        rw [if_pos (e1.trans e2)]
        exact lex_tr h1 h2
      · rw [if_neg e2] at h2
        rw [if_neg (by rw [e1]; exact e2), e1]
        exact h2
    · rw [if_neg e1] at h1
      by_cases e2 : y = z
      · rw [if_pos e2] at h2
        rw [if_neg (by rw [← e2]; exact e1), ← e2]
        exact h1
      · rw [if_neg e2] at h2
        have p := of_decide_eq_true h1
        have q := of_decide_eq_true h2
        rw [if_neg (by omega)]
        exact decide_eq_true (by omega)
section
variable {prog : Program} {w : World} {A : Around} {E : Value → Shared → Prop} {s : Shared}
/-- two tuples of as many ints, item by item -/
theorem lex_ints {b : Bool} {Q : Bool → Shared → Prop} : ∀ {ns ms : List Int} {vs us : List Value} (i : Nat), Vals (ns.map V.int) vs → Vals (ms.map V.int) us → ns.length = ms.length → Q (HT.lexLt ns ms) s →
    PySem.W.KatLex prog w A b false Q (vs.zip us) i s
  | [], [], _, _, _, .nil, .nil, _, q => q
  | [], _ :: _, _, _, _, _, _, h, _ => by simp at h
  | _ :: _, [], _, _, _, _, _, h, _ => by simp at h
  | n :: ns, m :: ms, _, _, i, .cons r1 t1, .cons r2 t2, h, q => by
    obtain ⟨t, rfl⟩ := r1
    obtain ⟨u, rfl⟩ := r2
    rw [List.zip_cons_cons]
    refine PySem.W.kat_cons (SeqAt.EqAt.int_int n t m u prog w _ _ ?_)
    rw [HT.lexLt_cons] at q
    by_cases e : n = m
    · rw [if_pos e] at q
      rw [show (n == m) = true by simpa using e]
      exact PySem.W.kat_yes (lex_ints (i + 1) t1 t2 (by simpa using h) q)
    · rw [if_neg e] at q
      rw [show (n == m) = false by simpa using e]
      refine PySem.W.kat_no ?_
      cases hb : (b && i == 0) with
      | true => exact oneLt_int q
      | false => exact PySem.W.kat_one _ _ (lt_int (show PySem.W.BoolBack Q (.bool (decide (n < m))) s from q))
theorem lex_pre {b : Bool} {Q : Bool → Shared → Prop} {ns ms : List Int} : ∀ {ps : List Str} {vs us : List Value} (i : Nat), Vals (ps.map V.str ++ ns.map V.int) vs → Vals (ps.map V.str ++ ms.map V.int) us → ns.length = ms.length → Q (HT.lexLt ns ms) s →
    PySem.W.KatLex prog w A b false Q (vs.zip us) i s
  | [], _, _, i, h1, h2, h, q => lex_ints i h1 h2 h q
  | p :: ps, _, _, i, .cons r1 t1, .cons r2 t2, h, q => by
    obtain ⟨t, rfl⟩ := r1
    obtain ⟨u, rfl⟩ := r2
    rw [List.zip_cons_cons]
    refine PySem.W.kat_cons (SeqAt.EqAt.str_str p t p u prog w _ _ ?_)
    rw [beq_self_eq_true]
    exact PySem.W.kat_yes (lex_pre (i + 1) t1 t2 h q)
end
/-- what is sorted: the ints behind shared texts -/
noncomputable def tupOf (ps : List Str) (ns : List Int) : PyData := .tuple (ps.map .str ++ ns.map .int)
theorem IsAll.preInts {H : Hp} {ns : List Int} : ∀ {ps : List Str} {vs : List V}, IsAll H vs (ps.map PyData.str ++ ns.map PyData.int) → vs = ps.map V.str ++ ns.map V.int
  | [], _, h => h.of_ints
  | p :: ps, _, h => by
    rw [List.map_cons, List.cons_append] at h
    cases h with
    | cons h1 t =>
    cases h1
    have := IsAll.preInts (ps := ps) t
    rw [this]
    rfl
theorem katTups_of {h : Heap} {G : Value → Prop} : ∀ (its : List Value), (∀ (i : Nat) u, its[i]? = some u → ∃ (a : Addr) (o : Obj) (zs : Array Value) (n : Nat) (f : Value), u = .ref a ∧ h.get? a = some o ∧ o.cls = .type "tuple" ∧ o.data = .seq zs n ∧ zs[0]? = some f ∧ G f) →
    ∃ fs, PySem.W.KatTups h its fs ∧ fs.length = its.length ∧ ∀ v ∈ fs, G v
  | [], _ => ⟨[], PySem.W.KatTups.nil, rfl, fun _ h => nomatch h⟩
  | u :: its, hi => by
    obtain ⟨fs, t, l, g⟩ := katTups_of its fun i u e => hi (i + 1) u (by simpa using e)
    obtain ⟨a, o, zs, n, f, rfl, h1, h2, h3, h4, h5⟩ := hi 0 u rfl
    refine ⟨f :: fs, PySem.W.KatTups.cons h1 h2 h3 h4 t, by simp [l], fun v hv => ?_⟩
    rcases List.mem_cons.mp hv with rfl | hv
    · exact h5
    · exact g v hv
theorem map_getD_range {α : Type} (d : α) (l : List α) : (List.range l.length).map (fun i => l.getD i d) = l := by
  apply List.ext_getElem?
  intro i
  rw [List.getElem?_map]
  by_cases h : i < l.length
  · rw [List.getElem?_range h]
    simp [h]
  · rw [List.getElem?_eq_none (by simpa using h), List.getElem?_eq_none (by simpa using h)]
    rfl
section
variable {X : Cx}
noncomputable def rSorted (K : PySem.W.Frag) : List V → Hp → VK → Prop := fun xs H Q => ∃ (p : Addr) (vs : List V) (ps : List Str) (nss : List (List Int)) (k : Nat), xs = [.ref p] ∧ (SqL K H p vs ∨ SqT K H p vs) ∧ IsAll H vs (nss.map (tupOf ps)) ∧ (∀ ns ∈ nss, ns.length = k) ∧ 0 < ps.length + k ∧ nss.Nodup ∧ nss.length < 64 ∧
  ∀ (l : Addr) (vs' : List V) (nss' : List (List Int)), H l = none → IsAll H vs' (nss'.map (tupOf ps)) → nss'.Perm nss → nss'.Pairwise (fun a b => HT.lexLt a b = true) → Q (.ref l) (upd H l (.lst vs'))
theorem call_sorted : CallR X (.builtin "sorted") (rSorted X.K) := by
  intro pins s σ H xs us Q I r h
  obtain ⟨p, vs, ps, nss, k, rfl, hq, ha, hk, hpos, hnd, h64, q⟩ := h
  obtain ⟨u, rfl, rx⟩ := Vals.one r
  cases (show u = Value.ref p from rx)
  obtain ⟨its, rv, hl, hz⟩ : ∃ its, Vals vs its ∧ Col X.prog X.w s p its ∧ vs.length ≤ sizeLine := by
    rcases hq with hq | hq
    · obtain ⟨its, rv, pl, hz⟩ := I.list hq
      exact ⟨its, rv, Col.list pl.isList (by rw [← rv.length]; exact hz), hz⟩
    · obtain ⟨its, rv, pl, hz⟩ := I.tuple hq
      exact ⟨its, rv, Col.tup pl (by rw [← rv.length]; exact hz), hz⟩
  have e1 : vs.length = nss.length := by rw [ha.length, List.length_map]
  have e2 : its.length = nss.length := by rw [← rv.length, e1]
  by_cases h2 : its.length < 2
  · refine sorted_few hl h2 fun D h' n hD hkeep ho => ?_
    refine ⟨.ref D, _, I.laid (t' := s.toks) (o := .lst vs) hkeep hD ⟨hz, its, n, rv, ho⟩, rfl, q D vs nss (I.hok.fresh hD) ha (List.Perm.refl _) ?_⟩
    match nss, e2, h2 with
    | [], _, _ => exact .nil
    | [a], _, _ => exact List.pairwise_singleton _ _
    | a :: b :: r, e2, h2 => simp at e2; omega
  · obtain ⟨m, F⟩ := I.fr
    refine sorted_many F (news := allNews X.base s.heap X.env.locals) news_all hl (by omega) (by omega) fun D e0 h' F' N' hD => ?_
    have hkeep : ∀ b o, b ≠ X.env.locals → s.heap.get? b = some o → h'.get? b = some o := fun b o hb e => by
      cases qb : X.base.get? b with
      | some u =>
        have := I.bk b u qb
        rw [e] at this; cases this
        exact F'.keep b _ qb
      | none => exact (N' (b, o) (List.mem_cons_of_mem _ (mem_allNews hb qb e))).1
    -- the items, one by one
    have item : ∀ (i : Nat) (ns : List Int), nss[i]? = some ns → ∃ (a : Addr) (o : Obj) (zs : List Value) (n : Nat), its.getD i Value.none = .ref a ∧ h'.get? a = some o ∧ o.cls = .type "tuple" ∧ o.data = .seq zs.toArray n ∧ Vals (ps.map V.str ++ ns.map V.int) zs := fun i ns e => by
      obtain ⟨v, ev, iv⟩ := ha.get (i := i) (d := tupOf ps ns) (by rw [List.getElem?_map, e]; rfl)
      obtain ⟨u, eu, ru⟩ := rv.get ev
      unfold tupOf at iv
      cases iv with
      | @tup a xs _ ea hxs =>
        obtain rfl := hxs.preInts
        obtain ⟨zs, rz, ⟨o, h1, h2, n, h3⟩, _⟩ := I.tuple (SqT.of ea)
        have hL : a ≠ X.env.locals := fun z => by rw [z, I.free] at ea; cases ea
        refine ⟨a, o, zs, n, ?_, hkeep a o hL h1, h2, h3, rz⟩
        rw [List.getD_eq_getElem?_getD, eu]
        exact ru
    -- the kind of the keys
    obtain ⟨T, fs, tups, hfl, hT, hTT⟩ : ∃ (T : String) (fs : List Value), PySem.W.KatTups h' its fs ∧ fs.length = its.length ∧ (∀ v ∈ fs, typeOf v = pure (Value.type T)) ∧ (Value.type T == Value.type T) = true := by
      have go : ∀ T : String, (∀ (ns : List Int) (zs : List Value), ns.length = k → Vals (ps.map V.str ++ ns.map V.int) zs → ∃ f, zs.toArray[0]? = some f ∧ typeOf f = pure (Value.type T)) →
          ∃ (fs : List Value), PySem.W.KatTups h' its fs ∧ fs.length = its.length ∧ (∀ v ∈ fs, typeOf v = pure (Value.type T)) := fun T hf =>
        katTups_of its fun i u eu => by
          have hi : i < nss.length := by rw [← e2]; exact (List.getElem?_eq_some_iff.mp eu).1
          obtain ⟨a, o, zs, n, g1, g2, g3, g4, g5⟩ := item i nss[i] (List.getElem?_eq_getElem hi)
          rw [List.getD_eq_getElem?_getD, eu] at g1
          obtain ⟨f, f1, f2⟩ := hf _ zs (hk _ (List.getElem_mem hi)) g5
          exact ⟨a, o, zs.toArray, n, f, g1, g2, g3, g4, f1, f2⟩
      cases hps : ps with
      | nil =>
        obtain ⟨fs, a, b, c⟩ := go "int" fun ns zs hn rz => by
          subst hps
          match ns, zs, rz, hn with
          | [], _, _, hn => simp at hpos; subst hn; simp at hpos
          | n :: ns, _, .cons r _, _ =>
            obtain ⟨t, rfl⟩ := r
            exact ⟨_, rfl, rfl⟩
        exact ⟨"int", fs, a, b, c, rfl⟩
      | cons p1 pr =>
        obtain ⟨fs, a, b, c⟩ := go "str" fun ns zs hn rz => by
          subst hps
          match zs, rz with
          | _, .cons r _ =>
            obtain ⟨t, rfl⟩ := r
            exact ⟨_, rfl, rfl⟩
        exact ⟨"str", fs, a, b, c, rfl⟩
    refine PySem.W.kat_kind tups (by omega) (fun v hv => PySem.W.Looks.of_pure (hT v hv)) hTT ?_
    have S : Str1 (fun i j => HT.lexLt (nss.getD i []) (nss.getD j [])) its.length := ⟨fun i j k _ _ _ a b => lex_tr a b, fun i j hi hj hne a => lex_tot (fun z => hne ?_) a, fun i j _ _ a => lex_asym a⟩
    · rw [e2]
      rw [e2] at S
      refine Run.wp (fun i j C hi hj hC => ?_) (fun pq hpq => ?_) (run_sort S (by omega))
      · show wpAny _ _ (keyLt' _ (its.getD i Value.none) (its.getD j Value.none)) C _ _
        obtain ⟨a, o, zs, n, g1, g2, g3, g4, g5⟩ := item i nss[i] (List.getElem?_eq_getElem hi)
        obtain ⟨a', o', zs', n', g1', g2', g3', g4', g5'⟩ := item j nss[j] (List.getElem?_eq_getElem hj)
        rw [g1, g1']
        refine PySem.W.kat_lt g2 g4 g2' g4' ?_
        have hn1 := hk _ (List.getElem_mem hi)
        have hn2 := hk _ (List.getElem_mem hj)
        have ez : decide (zs.toArray.size < zs'.toArray.size) = false := by
          have l1 := g5.length
          have l2 := g5'.length
          simp only [List.length_append, List.length_map] at l1 l2
          simp only [List.size_toArray]
          exact decide_eq_false (by omega)
        rw [ez]
        refine lex_pre 0 (by simpa using g5) (by simpa using g5') (by omega) ?_
        have e1' : nss.getD i [] = nss[i] := by simp [hi]
        have e2' : nss.getD j [] = nss[j] := by simp [hj]
        rw [← e1', ← e2']
        exact hC
      · obtain ⟨P, up⟩ := hpq
        refine PySem.W.KasFin.intro F' N' (.head fun x hx => Nat.ne_of_lt (hD x hx)) fun h'' c F'' N'' => ?_
        have hnD : s.heap.get? D = none := by
          cases qd : s.heap.get? D with
          | none => rfl
          | some o =>
            have hh := N' (D, _) List.mem_cons_self
            have hm := hD (D, o) (mem_allNews hh.2.1 hh.2.2 qd)
            exact absurd hm (Nat.lt_irrefl _)
        have hkeep2 : ∀ b o, b ≠ X.env.locals → s.heap.get? b = some o → h''.get? b = some o := fun b o hb e => by
          cases qb : X.base.get? b with
          | some u =>
            have := I.bk b u qb
            rw [e] at this; cases this
            exact F''.keep b _ qb
          | none => exact (N'' (b, o) (List.mem_cons_of_mem _ (mem_allNews hb qb e))).1
        have hlt : ∀ x ∈ pq.toList, x < nss.length := fun x hx => List.mem_range.mp (P.pm.mem_iff.mp hx)
        have rv2 : ∀ l : List Nat, (∀ x ∈ l, x < nss.length) → Vals (l.map fun i => vs.getD i .non) (l.map fun i => its.getD i Value.none) ∧ IsAll H (l.map fun i => vs.getD i .non) ((l.map fun i => nss.getD i []).map (tupOf ps)) := fun l => by
          induction l with
          | nil => exact fun _ => ⟨.nil, .nil⟩
          | cons x l ih =>
            intro hx
            obtain ⟨ih1, ih2⟩ := ih fun y hy => hx y (List.mem_cons_of_mem _ hy)
            have hxn := hx x List.mem_cons_self
            obtain ⟨v, ev, iv⟩ := ha.get (i := x) (d := tupOf ps nss[x]) (by rw [List.getElem?_map, List.getElem?_eq_getElem hxn]; rfl)
            obtain ⟨u, eu, ru⟩ := rv.get ev
            have a1 : vs.getD x .non = v := by rw [List.getD_eq_getElem?_getD, ev]; rfl
            have a2 : its.getD x Value.none = u := by rw [List.getD_eq_getElem?_getD, eu]; rfl
            have a3 : nss.getD x [] = nss[x] := by simp [hxn]
            simp only [List.map_cons, a1, a2, a3]
            exact ⟨.cons ru ih1, .cons iv ih2⟩
        obtain ⟨rv3, ia3⟩ := rv2 pq.toList hlt
        have ho := (N'' (D, _) List.mem_cons_self).1
        have hpl : pq.toList.length = nss.length := by rw [Array.length_toList]; exact P.sz
        refine ⟨.ref D, _, I.laidBut (t' := s.toks) hkeep2 F.ns F''.ns hnD rv3 (by rw [List.length_map, hpl, sizeLine_eq]; omega) ho, rfl, q D _ _ (I.none_of hnD) ia3 ?_ ?_⟩
        · have := P.pm.map fun i => nss.getD i []
          rw [map_getD_range] at this
          exact this
        · rw [List.pairwise_iff_getElem]
          intro i j hi hj hij
          simp only [List.length_map] at hi hj
          have := up i j hij (by rw [← hpl]; exact hj)
          have z : ∀ x (hx : x < pq.toList.length), pq.getD x 0 = pq.toList[x] := fun x hx => by
            have hx' : x < pq.size := by simpa using hx
            simp [Array.getD, hx']
          rw [z i hi, z j hj] at this
          simpa using this
    · rw [e2] at hi hj
      have e1' : nss.getD i [] = nss[i] := by simp [hi]
      have e2' : nss.getD j [] = nss[j] := by simp [hj]
      rw [e1', e2'] at z
      exact (List.getElem_inj hnd).mp z
end
end L2

set_option Elab.async false
set_option linter.all false
set_option maxRecDepth 100000
set_option maxHeartbeats 1000000
namespace L2
open PySem PySem.Spec PyProof.Rows
theorem bt_len : bootBuiltins "len" = some (.builtin "len") := by decide +kernel
theorem bt_isinstance : bootBuiltins "isinstance" = some (.builtin "isinstance") := by decide +kernel
theorem bt_all : bootBuiltins "all" = some (.builtin "all") := by decide +kernel
theorem bt_sorted : bootBuiltins "sorted" = some (.builtin "sorted") := by decide +kernel
theorem bt_zip : bootBuiltins "zip" = some (.type "zip") := by decide +kernel
theorem bt_tuple : bootBuiltins "tuple" = some (.type "tuple") := by decide +kernel
theorem bt_list : bootBuiltins "list" = some (.type "list") := by decide +kernel
theorem bt_int : bootBuiltins "int" = some (.type "int") := by decide +kernel
theorem bt_bool : bootBuiltins "bool" = some (.type "bool") := by decide +kernel
theorem pe_gint {X : Cx} {x : Str} {n : Int} {pos : Pos} (hg : Gl X x) (hm : ∃ tk, X.mg x = some (.int n tk)) (hd : (x == ("__debug__" : Str)) = false := by decide) : PE X (.Name x pos) (tC (.int n)) :=
  fun _ _ _ H _ I h => let ⟨tk, e⟩ := hm; ld_glob I hg e ⟨.int n, H, I, ⟨tk, rfl⟩, h⟩ hd
/-! ### an item of a list or a tuple -/
noncomputable def rIxA (K : PySem.W.Frag) : R2 := fun x y H Q => ∃ p xs i v, x = .ref p ∧ y = .int i ∧ (SqL K H p xs ∨ SqT K H p xs) ∧ atI xs i = some v ∧ Q v H
theorem ix_any {X : Cx} : IxR X (rIxA X.K) := by
  intro value slice pins s σ H x y v u Q I rx ry h hs
  obtain ⟨p, xs, i, w, e1, e2, hq, ha, q⟩ := h
  rcases hq with hq | hq
  · exact ix_list value slice pins s σ H x y v u Q I rx ry ⟨p, xs, i, w, e1, e2, hq, ha, q⟩ hs
  · exact ix_tup value slice pins s σ H x y v u Q I rx ry ⟨p, xs, i, w, e1, e2, hq, ha, q⟩ hs
/-! ### the built-in calls, each reading by a name -/
noncomputable def rIsinst : List V → Hp → VK → Prop := fun xs H Q => ∃ x T d, xs = [x, .ty T] ∧ T ∈ (["bool", "int", "tuple", "list", "str", "dict"] : List String) ∧ Is H x d ∧ Q (.bl (isTy T d)) H
noncomputable def rLen (K : PySem.W.Frag) : List V → Hp → VK → Prop := fun xs H Q => ∃ p ys, xs = [.ref p] ∧ (SqL K H p ys ∨ SqT K H p ys) ∧ Q (.int ys.length) H
noncomputable def rAll (K : PySem.W.Frag) : List V → Hp → VK → Prop := fun xs H Q => ∃ (p : Addr) (bs : List Bool), xs = [.ref p] ∧ SqL K H p (bs.map V.bl) ∧ Q (.bl (bs.all id)) H
noncomputable def rAny (K : PySem.W.Frag) : List V → Hp → VK → Prop := fun xs H Q => ∃ (p : Addr) (bs : List Bool), xs = [.ref p] ∧ SqL K H p (bs.map V.bl) ∧ Q (.bl (bs.any id)) H
noncomputable def rIsN : R2 := fun x y H Q => y = .non ∧ Q (.bl (decide (x = .non))) H
noncomputable def rNotN : R2 := fun x y H Q => y = .non ∧ Q (.bl (!decide (x = .non))) H
section
variable {X : Cx}
theorem c_isinst : CallR X (.builtin "isinstance") rIsinst := call_isinst
theorem c_len : CallR X (.builtin "len") (rLen X.K) := call_len_seq
theorem c_all (hc : X.calm = true) : CallR X (.builtin "all") (rAll X.K) := call_all hc
theorem o_notN : OpR X (compareOp .IsNot) rNotN := op_notN
noncomputable def rTupOf (K : PySem.W.Frag) : List V → Hp → VK → Prop := fun xs H Q => ∃ p ys, xs = [.ref p] ∧ ((SqL K H p ys ∧ ∀ l, H l = none → Q (.ref l) (upd H l (.tup ys))) ∨ (SqT K H p ys ∧ Q (.ref p) H))
noncomputable def rLstOf (K : PySem.W.Frag) : List V → Hp → VK → Prop := fun xs H Q => ∃ p ys, xs = [.ref p] ∧ (SqL K H p ys ∨ SqT K H p ys) ∧ ∀ l, H l = none → Q (.ref l) (upd H l (.lst ys))
theorem c_list : CallR X (.type "list") (rLstOf X.K) := call_list_of
theorem c_tuple : CallR X (.type "tuple") (rTupOf X.K) := call_tuple_of
noncomputable def rMax2 : List V → Hp → VK → Prop := fun xs H Q => ∃ i j : Int, xs = [.int i, .int j] ∧ Q (.int (if j > i then j else i)) H
noncomputable def rInt1 : List V → Hp → VK → Prop := fun xs H Q => (∃ i, xs = [.int i] ∧ Q (.int i) H) ∨ ∃ k, xs = [.bl k] ∧ Q (.int (if k then 1 else 0)) H
theorem c_int : CallR X (.type "int") rInt1 := call_int1
end
@[reducible] def isBoolD : PyData → Bool | .bool _ => true | _ => false
@[reducible] def isIntD : PyData → Bool | .bool _ => true | .int _ => true | _ => false
@[reducible] def isTupD : PyData → Bool | .tuple _ => true | _ => false
@[reducible] def isLstD : PyData → Bool | .list _ => true | _ => false
@[reducible] def isStrD : PyData → Bool | .str _ => true | _ => false
/-! ### the readings, step by step -/
section
variable {σ : St} {H : Hp} {Q : VK} {D : Ends} {K : PySem.W.Frag}
theorem rd_seq {t u : TS} (h : t { D with nx := u D } σ H) : tSeq t u D σ H := h
theorem rd_next (h : D.nx σ H) : tNext D σ H := h
theorem rd_ifS {c : TT} {t u : TS} (h : c σ H fun b H1 => if b = true then t D σ H1 else u D σ H1) : tIfS c t u D σ H := h
theorem rd_ret {te : TE} (h : te σ H D.rt) : tRet te D σ H := h
theorem rd_drop {te : TE} (h : te σ H fun _ H1 => D.nx σ H1) : tDrop te D σ H := h
theorem rd_asg {te : TE} {g : TG} (h : te σ H fun x H1 => g x σ H1 D.nx) : tAsg te g D σ H := h
theorem rd_gname {i : Nat} {v : V} {P : St → Hp → Prop} (h : P (σ.set i (some v)) H) : gName i v σ H P := h
theorem rd_var {i : Nat} {v : V} (e : σ[i]? = some (some v)) (h : Q v H) : tVar i σ H Q := ⟨v, e, h⟩
theorem rd_C {v : V} (h : Q v H) : tC v σ H Q := h
theorem rd_test {te : TE} {P : Bool → Hp → Prop} (h : te σ H fun x H' => ∃ k, x = .bl k ∧ P k H') : tTest te σ H P := h
theorem rd_B {te : TE} {P : Bool → Hp → Prop} (h : te σ H fun x H' => ∃ k, x = .bl k ∧ P k H') : tB te σ H P := h
theorem rd_bl {b : Bool} {P : Bool → Hp → Prop} (h : P b H) : ∃ k, V.bl b = .bl k ∧ P k H := ⟨b, rfl, h⟩
theorem rd_op {r : R2} {ta tb : TE} (h : ta σ H fun x H1 => tb σ H1 fun y H2 => r x y H2 Q) : tOp r ta tb σ H Q := h
theorem rd_un {r : V → Hp → VK → Prop} {ta : TE} (h : ta σ H fun x H1 => r x H1 Q) : tUn r ta σ H Q := h
theorem rd_I0 {g : Int → Int → V} {i j : Int} (h : Q (g i j) H) : rI0 g (.int i) (.int j) H Q := ⟨i, j, rfl, rfl, h⟩
theorem rd_I {C : Int → Int → Prop} {g : Int → Int → V} {i j : Int} (hc : C i j) (h : Q (g i j) H) : rI C g (.int i) (.int j) H Q := ⟨i, j, rfl, rfl, hc, h⟩
theorem rd_and {t u : TT} {P : Bool → Hp → Prop} (h : t σ H fun c H1 => if c = true then u σ H1 P else P false H1) : tAnd t u σ H P := h
theorem rd_or {t u : TT} {P : Bool → Hp → Prop} (h : t σ H fun c H1 => if c = true then P true H1 else u σ H1 P) : tOr t u σ H P := h
theorem rd_not {t : TT} {P : Bool → Hp → Prop} (h : t σ H fun c H1 => P (!c) H1) : tNot t σ H P := h
theorem rd_andV {ta tb : TE} (h : ta σ H fun x H1 => ∃ c, x = .bl c ∧ if c = true then tb σ H1 Q else Q (.bl false) H1) : tAndV ta tb σ H Q := h
theorem rd_orV {ta tb : TE} (h : ta σ H fun x H1 => ∃ c, x = .bl c ∧ if c = true then Q (.bl true) H1 else tb σ H1 Q) : tOrV ta tb σ H Q := h
theorem rd_notV {ta : TE} (h : ta σ H fun x H1 => ∃ c, x = .bl c ∧ Q (.bl (!c)) H1) : tNotV ta σ H Q := h
theorem rd_blE {b : Bool} {P : Bool → Prop} (h : P b) : ∃ c, V.bl b = .bl c ∧ P c := ⟨b, rfl, h⟩
theorem rd_nil {P : List V → Hp → Prop} (h : P [] H) : tNil σ H P := h
theorem rd_cons {ta : TE} {tr : TA} {P : List V → Hp → Prop} (h : ta σ H fun x H1 => tr σ H1 fun xs H2 => P (x :: xs) H2) : tCons ta tr σ H P := h
theorem rd_tup {t : TA} (h : t σ H fun xs H1 => xs.length ≤ sizeLine ∧ ∀ p, H1 p = none → Q (.ref p) (upd H1 p (.tup xs))) : tTup t σ H Q := h
theorem rd_lst {t : TA} (h : t σ H fun xs H1 => xs.length ≤ sizeLine ∧ ∀ p, H1 p = none → Q (.ref p) (upd H1 p (.lst xs))) : tLst t σ H Q := h
theorem rd_call {sp : Sp} {dvs : List V} {E : XK} {t : TA} (h : t σ H fun vs H1 => sp (vs ++ dvs) H1 Q E) : tCall sp dvs E t σ H Q := h
theorem rd_cb {r : List V → Hp → VK → Prop} {t : TA} (h : t σ H fun vs H1 => r vs H1 Q) : tCB r t σ H Q := h
theorem rd_ixT {p : Addr} {xs : List V} {i : Int} {v : V} (e : H p = some (.tup xs)) (a : atI xs i = some v) (h : Q v H) : rIxA K (.ref p) (.int i) H Q := ⟨p, xs, i, v, rfl, rfl, .inr (SqT.of e), a, h⟩
theorem rd_ixL {p : Addr} {xs : List V} {i : Int} {v : V} (e : H p = some (.lst xs)) (a : atI xs i = some v) (h : Q v H) : rIxA K (.ref p) (.int i) H Q := ⟨p, xs, i, v, rfl, rfl, .inl (SqL.of e), a, h⟩
theorem rd_chain {r r' : R2} {ta tb tc : TE} (h : ta σ H fun x H1 => tb σ H1 fun y H2 => r x y H2 fun z H3 => ∃ k, z = .bl k ∧ (if k = true then tc σ H3 fun w' H4 => r' y w' H4 Q else Q (.bl false) H3)) : tChain r r' ta tb tc σ H Q := h
theorem ifT {b : Bool} {A B : Prop} (h : b = true) (x : A) : if b = true then A else B := by rw [if_pos h]; exact x
theorem ifF {b : Bool} {A B : Prop} (h : b = false) (x : B) : if b = true then A else B := by rw [if_neg (by rw [h]; exact Bool.false_ne_true)]; exact x
theorem ifB {b : Bool} {A B : Prop} (h1 : b = true → A) (h0 : b = false → B) : if b = true then A else B := by
  cases b with
  | true => rw [if_pos rfl]; exact h1 rfl
  | false => rw [if_neg Bool.false_ne_true]; exact h0 rfl
theorem rd_isN {x : V} (h : Q (.bl (decide (x = .non))) H) : rIsN x .non H Q := ⟨rfl, h⟩
theorem rd_notN {x : V} (h : Q (.bl (!decide (x = .non))) H) : rNotN x .non H Q := ⟨rfl, h⟩
theorem rd_isBool {x : V} {d : PyData} (hx : Is H x d) (h : Q (.bl (isBoolD d)) H) : rIsinst [x, .ty "bool"] H Q := ⟨x, "bool", d, rfl, by decide, hx, by cases d <;> exact h⟩
theorem rd_isInt {x : V} {d : PyData} (hx : Is H x d) (h : Q (.bl (isIntD d)) H) : rIsinst [x, .ty "int"] H Q := ⟨x, "int", d, rfl, by decide, hx, by cases d <;> exact h⟩
theorem rd_isTup {x : V} {d : PyData} (hx : Is H x d) (h : Q (.bl (isTupD d)) H) : rIsinst [x, .ty "tuple"] H Q := ⟨x, "tuple", d, rfl, by decide, hx, by cases d <;> exact h⟩
theorem rd_isLst {x : V} {d : PyData} (hx : Is H x d) (h : Q (.bl (isLstD d)) H) : rIsinst [x, .ty "list"] H Q := ⟨x, "list", d, rfl, by decide, hx, by cases d <;> exact h⟩
theorem rd_isStr {x : V} {d : PyData} (hx : Is H x d) (h : Q (.bl (isStrD d)) H) : rIsinst [x, .ty "str"] H Q := ⟨x, "str", d, rfl, by decide, hx, by cases d <;> exact h⟩
theorem ifNT {A B : Prop} (h : B) : if (!true) = true then A else B := iteF h
theorem ifNF {A B : Prop} (h : A) : if (!false) = true then A else B := iteT h
theorem rd_all {p : Addr} {bs : List Bool} (e : H p = some (.lst (bs.map V.bl))) (h : Q (.bl (bs.all id)) H) : rAll K [.ref p] H Q := ⟨p, bs, rfl, SqL.of e, h⟩
theorem rd_any {p : Addr} {bs : List Bool} (e : H p = some (.lst (bs.map V.bl))) (h : Q (.bl (bs.any id)) H) : rAny K [.ref p] H Q := ⟨p, bs, rfl, SqL.of e, h⟩
theorem rd_max2 {i j : Int} (h : Q (.int (if j > i then j else i)) H) : rMax2 [.int i, .int j] H Q := ⟨i, j, rfl, h⟩
theorem rd_int1 {k : Bool} (h : Q (.int (if k then 1 else 0)) H) : rInt1 [.bl k] H Q := .inr ⟨k, rfl, h⟩
theorem rd_tupL {p : Addr} {ys : List V} (e : H p = some (.lst ys)) (h : ∀ l, H l = none → Q (.ref l) (upd H l (.tup ys))) : rTupOf K [.ref p] H Q := ⟨p, ys, rfl, .inl ⟨SqL.of e, h⟩⟩
theorem rd_eqD {neg : Bool} {x y : V} {d e : PyData} (hx : Is H x d) (hy : Is H y e) (od : okD d) (oe : okD e) (h : Q (.bl (if neg then !PyData.eqv d e else PyData.eqv d e)) H) : rEqD neg x y H Q := ⟨d, e, hx, hy, od, oe, h⟩
theorem rd_eqI {x y : Int} (h : Q (.bl (x == y)) H) : rEqD false (.int x) (.int y) H Q := ⟨.int x, .int y, .int x, .int y, ⟨rfl, Nat.zero_le _⟩, ⟨rfl, Nat.zero_le _⟩, h⟩
theorem rd_neI {x y : Int} (h : Q (.bl (!(x == y))) H) : rEqD true (.int x) (.int y) H Q := ⟨.int x, .int y, .int x, .int y, ⟨rfl, Nat.zero_le _⟩, ⟨rfl, Nat.zero_le _⟩, h⟩
theorem rd_eqB {x y : Bool} (h : Q (.bl (x == y)) H) : rEqD false (.bl x) (.bl y) H Q := ⟨.bool x, .bool y, .bl x, .bl y, ⟨rfl, Nat.zero_le _⟩, ⟨rfl, Nat.zero_le _⟩, h⟩
theorem rd_neB {x y : Bool} (h : Q (.bl (!(x == y))) H) : rEqD true (.bl x) (.bl y) H Q := ⟨.bool x, .bool y, .bl x, .bl y, ⟨rfl, Nat.zero_le _⟩, ⟨rfl, Nat.zero_le _⟩, h⟩
theorem rd_inD {neg : Bool} {x y : V} {d : PyData} {ds : List PyData} (hx : Is H x d) (hy : Is H y (.tuple ds)) (od : okD d) (oe : okDs ds) (h : Q (.bl (if neg then !inD d ds else inD d ds)) H) : rInD neg x y H Q := ⟨d, ds, hx, .inl hy, od, oe, h⟩
theorem rd_lenT {p : Addr} {xs : List V} (e : H p = some (.tup xs)) (h : Q (.int xs.length) H) : rLen K [.ref p] H Q := ⟨p, xs, rfl, .inr (SqT.of e), h⟩
theorem rd_lenL {p : Addr} {xs : List V} (e : H p = some (.lst xs)) (h : Q (.int xs.length) H) : rLen K [.ref p] H Q := ⟨p, xs, rfl, .inl (SqL.of e), h⟩
end
end L2

set_option Elab.async false
set_option linter.all false
set_option maxRecDepth 100000
set_option maxHeartbeats 1000000
namespace L2
open PySem PySem.Spec PyProof.Rows
section
variable {σ : St} {H : Hp} {Q : VK} {D : Ends} {K : PySem.W.Frag} {R : It → Hp → Prop}
theorem rd_for {wi : TI} {g : TG} {tb : TS} (h : wi σ H fun J H1 => ∃ W : Nat → Nat → St → Hp → Prop, (∃ m, W 0 m σ H1) ∧ ∀ i m σ H, W i m σ H →
  (J.stop i H ∧ D.nx σ H) ∨ (J.go i H ∧ ∃ N : St → Hp → Prop, (∀ σ' H', N σ' H' → ∃ m', m' < m ∧ W (i + 1) m' σ' H') ∧ ∀ x H', J.yld i H x H' → g x σ H' fun σ2 H2 => tb { D with nx := N, ct := N, bk := D.nx } σ2 H2)) : tFor wi g tb D σ H := h
theorem rd_lc {wi : TI} {fm : List (Option Nat)} {g : TG} {tt : TT} {te : TE} (h : wi σ H fun J H1 => ∃ W : Nat → Nat → List V → Hp → Prop, (∃ m, W 0 m [] H1) ∧ ∀ i m ys H, W i m ys H →
  (J.stop i H ∧ ∀ p, H p = none → Q (.ref p) (upd H p (.lst ys))) ∨
  (J.go i H ∧ ys.length < sizeLine ∧ ∃ N : List V → Hp → Prop, (∀ ys' H', N ys' H' → ∃ m', m' < m ∧ W (i + 1) m' ys' H') ∧
    ∀ x H', J.yld i H x H' → g x (fmSt fm σ) H' fun σ2 H2 => tt σ2 H2 fun ok H3 => if ok = true then te σ2 H3 fun v H4 => N (ys ++ [v]) H4 else N ys H3)) : tLC wi fm g tt te σ H Q := h
theorem rd_rng1 {ta : TA} (h : ta σ H fun vs H1 => ∃ j : Int, vs = [.int j] ∧ -(2 ^ 62) ≤ j ∧ j < 2 ^ 62 ∧ R (Itr 0 j.toNat) H1) : iRng1 ta σ H R := h
theorem rd_itup {tl : TE} (h : tl σ H fun x H1 => ∃ a, x = .ref a ∧ (∃ xs, SqT K H1 a xs) ∧ R (Itt K a) H1) : iTup K tl σ H R := h
theorem rd_ilst {tl : TE} (h : tl σ H fun x H1 => ∃ a, x = .ref a ∧ (∃ xs, SqL K H1 a xs) ∧ R (Itl K a) H1) : iList K tl σ H R := h
theorem rd_yes {P : Bool → Hp → Prop} (h : P true H) : tYes σ H P := h
theorem rd_gcons {t : TG} {u : TGs} {v : V} {r : List V} {P : St → Hp → Prop} (h : t v σ H fun σ' H' => u r σ' H' P) : gCons t u (v :: r) σ H P := ⟨v, r, rfl, h⟩
theorem rd_gnil {P : St → Hp → Prop} (h : P σ H) : gNil [] σ H P := ⟨rfl, h⟩
end
/-! ### heaps that only grew -/
theorem Same.upd {H : Hp} {l : Addr} {o : HO} (h : H l = none) : Same H (upd H l o) := fun b u e => by rw [upd_ne (ne_of_none e h)]; exact e
theorem Same.tup {H H' : Hp} (e : Same H H') {a : Addr} {xs : List V} (h : H a = some (.tup xs)) : H' a = some (.tup xs) := e _ _ h
/-- a new pair -/
theorem Is.pair {H : Hp} {p : Addr} {i j : Int} : Is (upd H p (.tup [.int i, .int j])) (.ref p) (.tuple [.int i, .int j]) := .tup upd_same (.cons (.int i) (.cons (.int j) .nil))
end L2

set_option Elab.async false
set_option linter.all false
set_option maxRecDepth 100000
set_option maxHeartbeats 1000000
namespace L2
open PySem PySem.Spec PyProof.Rows
/-! ### the same rules, the text's own part named: within a block it must be the frame's -/
section
variable {X : Cx}
theorem k_ix (K : PySem.W.Frag) (h : X.K = K := by rfl) : IxR X (rIxA K) := h ▸ ix_any
theorem k_len (K : PySem.W.Frag) (h : X.K = K := by rfl) : CallR X (.builtin "len") (rLen K) := h ▸ c_len
theorem k_all (K : PySem.W.Frag) (hc : X.calm = true := by rfl) (h : X.K = K := by rfl) : CallR X (.builtin "all") (rAll K) := h ▸ c_all hc
theorem k_tuple (K : PySem.W.Frag) (h : X.K = K := by rfl) : CallR X (.type "tuple") (rTupOf K) := h ▸ c_tuple
theorem k_list (K : PySem.W.Frag) (h : X.K = K := by rfl) : CallR X (.type "list") (rLstOf K) := h ▸ c_list
theorem k_sorted (K : PySem.W.Frag) (h : X.K = K := by rfl) : CallR X (.builtin "sorted") (rSorted K) := h ▸ call_sorted
theorem k_ltT (K : PySem.W.Frag) (hu : X.A.units < cLine) (h : X.K = K := by rfl) : OpR X (compareOp .Lt) (rLtT K) := h ▸ op_ltT hu
theorem k_slT (K : PySem.W.Frag) (h : X.K = K := by rfl) : SlR X (rSlT K) := h ▸ sl_tup
theorem k_ptup (K : PySem.W.Frag) {tg l : Expr} {tl : TE} (hl : PE X l tl) (h : X.K = K := by rfl) : PI X tg l (iTup K tl) := h ▸ pi_tup hl
theorem k_plst (K : PySem.W.Frag) {tg l : Expr} {tl : TE} (hl : PE X l tl) (h : X.K = K := by rfl) : PI X tg l (iList K tl) := h ▸ pi_list hl
theorem k_gtup (K : PySem.W.Frag) {pos : Pos} {es : List Expr} {k : Nat} {t : TGs} {n : Nat} (hc : X.calm = true) (hh : PGs X es t)
    (hn : (assignEach es X.env).length = n := by rfl) (hst : (assignEach es X.env).findIdx? (·.1) = none := by rfl) (h : X.K = K := by rfl) : PG X (.Tuple es k pos) (gTup K n t) := h ▸ pg_tup hc hh hn hst
theorem k_bm (K : PySem.W.Frag) {o e : Expr} {es : List Expr} {to : TE} {t : TA} {name : Str} {apos cpos : Pos} {T id : String} {r : V → List V → Hp → VK → Prop} (pa : PlainAttrs T) (slot : Slot T name id) (hty : typeOf (.builtin id) = pure (.type "method_descriptor")) (hm : MtR X id r) (ho : PE X o to) (ha : PA X (e :: es) t)
    (hbase : attributeBase o name X.env (eval o X.env) = eval o X.env := by rfl)
    (hfew : ((backTo cpos (starEach (e :: es) X.env)).all (fun x => !x.1) && (backToKw cpos (keywordEach [] X.env)).all (fun x => x.1.isSome)
      && decide ((e :: es).length + ([] : List Keyword).length + (if ([] : List Keyword).isEmpty then 0 else 1) < 30)) = true := by rfl)
    (hline : (apos.endLine == cpos.line) = true := by rfl) (hs : starEach (e :: es) X.env = (false, eval e X.env) :: starEach es X.env := by rfl) (hplain : (backTo cpos (starEach es X.env)).any (·.1) = false := by rfl) (h : X.K = K := by rfl) :
    PE X (.Call (.Attribute o name apos) (e :: es) [] cpos) (tBM K T r to t) := h ▸ pe_bm pa slot hty hm ho ha hbase hfew hline hs hplain
end
section
variable {σ : St} {H : Hp} {Q : VK} {D : Ends} {K : PySem.W.Frag}
theorem rd_ltT {a b : Addr} {i j k l : Int} (h1 : H a = some (.tup [.int i, .int j])) (h2 : H b = some (.tup [.int k, .int l])) (h : Q (.bl (HT.lexLt [i, j] [k, l])) H) : rLtT K (.ref a) (.ref b) H Q :=
  ⟨a, b, [i, j], [k, l], rfl, rfl, SqT.of h1, SqT.of h2, h⟩
theorem rd_bm {T : String} {r : V → List V → Hp → VK → Prop} {to : TE} {t : TA} (h : to σ H fun x H1 => tyV K T x H1 ∧ t σ H1 fun xs H2 => r x xs H2 Q) : tBM K T r to t σ H Q := h
/-- xs.append(v) -/
theorem rd_append {l : Addr} {xs : List V} {v : V} (e : H l = some (.lst xs)) (hz : xs.length < sizeLine) (h : Q .non (upd H l (.lst (xs ++ [v])))) : rAppend (.ref l) [v] H Q := ⟨l, xs, v, rfl, rfl, e, hz, h⟩
theorem tyV_lst {l : Addr} {xs : List V} (e : H l = some (.lst xs)) : tyV K "list" (.ref l) H := .inl ⟨rfl, _, SqL.of e⟩
end
/-! ### is None -/
theorem if_nn {A B : Prop} (h : A) : if decide (V.non = V.non) = true then A else B := by rw [decide_eq_true rfl]; exact iteT h
theorem if_rn {a : Addr} {A B : Prop} (h : B) : if decide (V.ref a = V.non) = true then A else B := by rw [decide_eq_false (fun z => nomatch z)]; exact iteF h
theorem if_in {a : Int} {A B : Prop} (h : B) : if decide (V.int a = V.non) = true then A else B := by rw [decide_eq_false (fun z => nomatch z)]; exact iteF h
theorem if_nnN {A B : Prop} (h : B) : if (!decide (V.non = V.non)) = true then A else B := by rw [decide_eq_true rfl]; exact iteF h
theorem if_rnN {a : Addr} {A B : Prop} (h : A) : if (!decide (V.ref a = V.non)) = true then A else B := by rw [decide_eq_false (fun z => nomatch z)]; exact iteT h
theorem if_inN {a : Int} {A B : Prop} (h : A) : if (!decide (V.int a = V.non)) = true then A else B := by rw [decide_eq_false (fun z => nomatch z)]; exact iteT h
section
variable {σ : St} {H : Hp} {Q : VK} {D : Ends}
theorem rd_while {c : TT} {tb : TS} (h : ∃ W : Nat → St → Hp → Prop, (∃ m, W m σ H) ∧ ∀ m σ H, W m σ H → c σ H fun b H1 => if b = true then ∃ N : St → Hp → Prop, (∀ σ' H', N σ' H' → ∃ m', m' < m ∧ W m' σ' H') ∧ tb { D with nx := N, ct := N, bk := D.nx } σ H1 else D.nx σ H1) : tWhile c tb D σ H := h
theorem rd_gsub {to ti : TE} {t : TSet} {v : V} {P : St → Hp → Prop} (h : to σ H fun o H1 => ti σ H1 fun i H2 => t o i v H2 fun H3 => P σ H3) : gSub to ti t v σ H P := h
theorem rep_one {α : Type} (x : α) : ∀ n : Nat, (List.replicate n [x]).flatten = List.replicate n x
  | 0 => rfl
  | n + 1 => by rw [List.replicate_succ, List.flatten_cons, rep_one x n]; rfl
theorem rd_rep {l : Addr} {v : V} {n : Nat} (e : H l = some (.lst [v])) (hn : n ≤ 1000) (h : ∀ p, H p = none → Q (.ref p) (upd H p (.lst (List.replicate n v)))) : rRep (.ref l) (.int n) H Q :=
  ⟨l, n, [v], rfl, rfl, e, by omega, by omega, by rw [Int.toNat_natCast]; have := small1000 hn; simp; omega, fun p hp => by rw [Int.toNat_natCast, rep_one]; exact h p hp⟩
end
/-! ### loops and comprehensions by a word, whatever the body reads -/
section
variable {H : Hp} {K : PySem.W.Frag}
theorem lp_range {lo : Int} {n : Nat} {G : List V → Hp → Prop} {B : (List V → Hp → Prop) → List V → V → Hp → Prop} (hn : n ≤ sizeLine) (Pv : Nat → List V → Hp → Prop) (h0 : Pv 0 [] H) (hlen : ∀ i ys H, Pv i ys H → ys.length ≤ i)
    (hs : ∀ i ys H, i < n → Pv i ys H → B (Pv (i + 1)) ys (.int (lo + i)) H) (hd : ∀ ys H, Pv n ys H → G ys H) :
    ∃ W : Nat → Nat → List V → Hp → Prop, (∃ m, W 0 m [] H) ∧ ∀ i m ys H, W i m ys H → ((Itr lo n).stop i H ∧ G ys H) ∨ ((Itr lo n).go i H ∧ ys.length < sizeLine ∧
      ∃ N : List V → Hp → Prop, (∀ ys' H', N ys' H' → ∃ m', m' < m ∧ W (i + 1) m' ys' H') ∧ ∀ x H', (Itr lo n).yld i H x H' → B N ys x H') := by
  refine ⟨fun i m ys H => m = n - i ∧ i ≤ n ∧ Pv i ys H, ⟨n, by simp, Nat.zero_le _, h0⟩, ?_⟩
  rintro i m ys H ⟨rfl, hi, p⟩
  have hl := hlen i ys H p
  by_cases hlt : i < n
  · refine .inr ⟨hlt, by omega, Pv (i + 1), fun ys' H' p' => ⟨n - (i + 1), by omega, rfl, hlt, p'⟩, fun x H' y => ?_⟩
    obtain ⟨e, y⟩ := y
    subst e y
    exact hs i ys _ hlt p
  · have e : i = n := by omega
    subst e
    exact .inl ⟨Nat.le_refl _, hd ys H p⟩
theorem lp_tup {a : Addr} {xs : List V} {G : List V → Hp → Prop} {B : (List V → Hp → Prop) → List V → V → Hp → Prop} (hn : xs.length ≤ sizeLine) (Pv : Nat → List V → Hp → Prop) (h0 : Pv 0 [] H) (hlen : ∀ i ys H, Pv i ys H → ys.length ≤ i)
    (hl : ∀ i ys H, i ≤ xs.length → Pv i ys H → SqT K H a xs) (hs : ∀ i x ys H, xs[i]? = some x → Pv i ys H → B (Pv (i + 1)) ys x H) (hd : ∀ ys H, Pv xs.length ys H → G ys H) :
    ∃ W : Nat → Nat → List V → Hp → Prop, (∃ m, W 0 m [] H) ∧ ∀ i m ys H, W i m ys H → ((Itt K a).stop i H ∧ G ys H) ∨ ((Itt K a).go i H ∧ ys.length < sizeLine ∧
      ∃ N : List V → Hp → Prop, (∀ ys' H', N ys' H' → ∃ m', m' < m ∧ W (i + 1) m' ys' H') ∧ ∀ x H', (Itt K a).yld i H x H' → B N ys x H') := by
  refine ⟨fun i m ys H => m = xs.length - i ∧ i ≤ xs.length ∧ Pv i ys H, ⟨xs.length, by simp, Nat.zero_le _, h0⟩, ?_⟩
  rintro i m ys H ⟨rfl, hi, p⟩
  have hly := hlen i ys H p
  have q := hl i ys H hi p
  by_cases hlt : i < xs.length
  · refine .inr ⟨⟨xs, xs[i], q, by simp [hlt]⟩, by omega, Pv (i + 1), fun ys' H' p' => ⟨xs.length - (i + 1), by omega, rfl, hlt, p'⟩, fun x H' y => ?_⟩
    obtain ⟨e, y⟩ := y
    subst e
    exact hs i x ys _ (y xs q) p
  · have e : i = xs.length := by omega
    subst e
    exact .inl ⟨⟨xs, q, Nat.le_refl _⟩, hd ys H p⟩
theorem lp_list {a : Addr} {xs : List V} {G : List V → Hp → Prop} {B : (List V → Hp → Prop) → List V → V → Hp → Prop} (hn : xs.length ≤ sizeLine) (Pv : Nat → List V → Hp → Prop) (h0 : Pv 0 [] H) (hlen : ∀ i ys H, Pv i ys H → ys.length ≤ i)
    (hl : ∀ i ys H, i ≤ xs.length → Pv i ys H → SqL K H a xs) (hs : ∀ i x ys H, xs[i]? = some x → Pv i ys H → B (Pv (i + 1)) ys x H) (hd : ∀ ys H, Pv xs.length ys H → G ys H) :
    ∃ W : Nat → Nat → List V → Hp → Prop, (∃ m, W 0 m [] H) ∧ ∀ i m ys H, W i m ys H → ((Itl K a).stop i H ∧ G ys H) ∨ ((Itl K a).go i H ∧ ys.length < sizeLine ∧
      ∃ N : List V → Hp → Prop, (∀ ys' H', N ys' H' → ∃ m', m' < m ∧ W (i + 1) m' ys' H') ∧ ∀ x H', (Itl K a).yld i H x H' → B N ys x H') := by
  refine ⟨fun i m ys H => m = xs.length - i ∧ i ≤ xs.length ∧ Pv i ys H, ⟨xs.length, by simp, Nat.zero_le _, h0⟩, ?_⟩
  rintro i m ys H ⟨rfl, hi, p⟩
  have hly := hlen i ys H p
  have q := hl i ys H hi p
  by_cases hlt : i < xs.length
  · refine .inr ⟨⟨xs, xs[i], q, by simp [hlt]⟩, by omega, Pv (i + 1), fun ys' H' p' => ⟨xs.length - (i + 1), by omega, rfl, hlt, p'⟩, fun x H' y => ?_⟩
    obtain ⟨e, y⟩ := y
    subst e
    exact hs i x ys _ (y xs q) p
  · have e : i = xs.length := by omega
    subst e
    exact .inl ⟨⟨xs, q, Nat.le_refl _⟩, hd ys H p⟩
theorem fp_range {σ : St} {lo : Int} {n : Nat} {G : St → Hp → Prop} {B : (St → Hp → Prop) → V → St → Hp → Prop} (Pv : Nat → St → Hp → Prop) (h0 : Pv 0 σ H) (hs : ∀ i σ H, i < n → Pv i σ H → B (Pv (i + 1)) (.int (lo + i)) σ H) (hd : ∀ σ H, Pv n σ H → G σ H) :
    ∃ W : Nat → Nat → St → Hp → Prop, (∃ m, W 0 m σ H) ∧ ∀ i m σ H, W i m σ H → ((Itr lo n).stop i H ∧ G σ H) ∨ ((Itr lo n).go i H ∧
      ∃ N : St → Hp → Prop, (∀ σ' H', N σ' H' → ∃ m', m' < m ∧ W (i + 1) m' σ' H') ∧ ∀ x H', (Itr lo n).yld i H x H' → B N x σ H') := by
  refine ⟨fun i m σ H => m = n - i ∧ i ≤ n ∧ Pv i σ H, ⟨n, by simp, Nat.zero_le _, h0⟩, ?_⟩
  rintro i m σ H ⟨rfl, hi, p⟩
  by_cases hlt : i < n
  · refine .inr ⟨hlt, Pv (i + 1), fun σ' H' p' => ⟨n - (i + 1), by omega, rfl, hlt, p'⟩, fun x H' y => ?_⟩
    obtain ⟨e, y⟩ := y
    subst e y
    exact hs i σ _ hlt p
  · have e : i = n := by omega
    subst e
    exact .inl ⟨Nat.le_refl _, hd σ H p⟩
theorem fp_tup {σ : St} {a : Addr} {xs : List V} {G : St → Hp → Prop} {B : (St → Hp → Prop) → V → St → Hp → Prop} (Pv : Nat → St → Hp → Prop) (h0 : Pv 0 σ H) (hl : ∀ i σ H, i ≤ xs.length → Pv i σ H → SqT K H a xs)
    (hs : ∀ i x σ H, xs[i]? = some x → Pv i σ H → B (Pv (i + 1)) x σ H) (hd : ∀ σ H, Pv xs.length σ H → G σ H) :
    ∃ W : Nat → Nat → St → Hp → Prop, (∃ m, W 0 m σ H) ∧ ∀ i m σ H, W i m σ H → ((Itt K a).stop i H ∧ G σ H) ∨ ((Itt K a).go i H ∧
      ∃ N : St → Hp → Prop, (∀ σ' H', N σ' H' → ∃ m', m' < m ∧ W (i + 1) m' σ' H') ∧ ∀ x H', (Itt K a).yld i H x H' → B N x σ H') := by
  refine ⟨fun i m σ H => m = xs.length - i ∧ i ≤ xs.length ∧ Pv i σ H, ⟨xs.length, by simp, Nat.zero_le _, h0⟩, ?_⟩
  rintro i m σ H ⟨rfl, hi, p⟩
  have q := hl i σ H hi p
  by_cases hlt : i < xs.length
  · refine .inr ⟨⟨xs, xs[i], q, by simp [hlt]⟩, Pv (i + 1), fun σ' H' p' => ⟨xs.length - (i + 1), by omega, rfl, hlt, p'⟩, fun x H' y => ?_⟩
    obtain ⟨e, y⟩ := y
    subst e
    exact hs i x σ _ (y xs q) p
  · have e : i = xs.length := by omega
    subst e
    exact .inl ⟨⟨xs, q, Nat.le_refl _⟩, hd σ H p⟩
end
end L2

set_option Elab.async false
set_option linter.all false
set_option maxRecDepth 100000
set_option maxHeartbeats 1000000
namespace L2
open PySem PySem.Spec PyProof.Rows
/-! ### a list of ints == [] -/
noncomputable def rEqNil (K : PySem.W.Frag) : R2 := fun x y H Q => ∃ p q ns, x = .ref p ∧ y = .ref q ∧ SqL K H p (ns.map V.int) ∧ SqL K H q [] ∧ Q (.bl (decide (ns = []))) H
theorem op_eqNil {X : Cx} (hu : X.A.units < cLine) : OpR X (compareOp .Eq) (rEqNil X.K) := by
  intro pins s σ H x y v u Q I rx ry h
  obtain ⟨p, q, ns, rfl, rfl, h1, h2, hq⟩ := h
  cases (show v = Value.ref p from rx)
  cases (show u = Value.ref q from ry)
  obtain ⟨its, r1, p1, _⟩ := I.list h1
  obtain ⟨its2, r2, p2, _⟩ := I.list h2
  have e2 : its2 = [] := by cases r2; rfl
  subst e2
  have hl := r1.length
  rw [List.length_map] at hl
  match ns, hl with
  | [], hl =>
    have e1 : its = [] := by
      have : its.length = 0 := by simpa using hl.symm
      exact List.length_eq_zero_iff.mp this
    subst e1
    exact SeqAt.eq_listAt (e := fun _ => true) p1.isList p2.isList rfl hu (fun j g _ => absurd g (Nat.not_lt_zero _)) ⟨.bl true, H, I, rfl, hq⟩
  | n :: ns, hl =>
    refine SeqAt.eq_list_lengthsAt p1.isList p2.isList ?_ hu ⟨.bl false, H, I, rfl, hq⟩
    have : its.length = ns.length + 1 := by simpa using hl.symm
    simp [this]
theorem k_eqNil {X : Cx} (K : PySem.W.Frag) (hu : X.A.units < cLine) (h : X.K = K := by rfl) : OpR X (compareOp .Eq) (rEqNil K) := h ▸ op_eqNil hu
section
variable {σ : St} {H : Hp} {Q : VK} {K : PySem.W.Frag}
theorem rd_lenS {p : Addr} {xs : List V} (e : SqL K H p xs) (h : Q (.int xs.length) H) : rLen K [.ref p] H Q := ⟨p, xs, rfl, .inl e, h⟩
theorem rd_ixS {p : Addr} {xs : List V} {i : Int} {v : V} (e : SqL K H p xs) (a : atI xs i = some v) (h : Q v H) : rIxA K (.ref p) (.int i) H Q := ⟨p, xs, i, v, rfl, rfl, .inl e, a, h⟩
theorem rd_extend {l b : Addr} {xs zs : List V} (e : H l = some (.lst xs)) (e2 : H b = some (.lst zs)) (hz : xs.length + zs.length ≤ sizeLine) (h : Q .non (upd H l (.lst (xs ++ zs)))) : rExtend (.ref l) [.ref b] H Q := ⟨l, b, xs, zs, rfl, rfl, e, e2, hz, h⟩
end
/-- the script as it is handed in: known, never written -/
noncomputable def Scr (K : PySem.W.Frag) (H : Hp) (a : Addr) (ns : List Int) : Prop := (∃ o, H a = some (.frz o (.lst (ns.map V.int)))) ∨
  ∃ (o : Obj) (its : Array Value) (n : Nat), K.lookup a = some o ∧ o.cls = .type "list" ∧ o.dict = none ∧ o.data = .seq its n ∧ its.size ≤ sizeLine ∧ Vals (ns.map V.int) its.toList
theorem Scr.sq {K : PySem.W.Frag} {H : Hp} {a : Addr} {ns : List Int} (h : Scr K H a ns) : SqL K H a (ns.map V.int) := by
  rcases h with ⟨o, h⟩ | h
  · exact .inl (.inr ⟨o, h⟩)
  · exact .inr h
theorem Scr.of {K : PySem.W.Frag} {H : Hp} {a : Addr} {ns : List Int} (hO : Only H) (h : SqL K H a (ns.map V.int)) : Scr K H a ns := by
  rcases h with (h | ⟨o, h⟩) | h
  · rcases hO a with g | ⟨o, xs, g⟩
    · rw [g] at h; cases h
    · rw [g] at h; cases h
  · exact .inl ⟨o, h⟩
  · exact .inr h
/-- all but the list at w is as it was -/
noncomputable def SameT (w : Addr) (H H' : Hp) : Prop := ∀ b u, H b = some u → b ≠ w → H' b = some u
theorem SameT.refl (w : Addr) (H : Hp) : SameT w H H := fun _ _ h _ => h
theorem SameT.trans {w : Addr} {H H1 H2 : Hp} (a : SameT w H H1) (b : SameT w H1 H2) : SameT w H H2 := fun c u h g => b c u (a c u h g) g
theorem Same.t {w : Addr} {H H' : Hp} (h : Same H H') : SameT w H H' := fun b u e _ => h b u e
theorem Scr.t {K : PySem.W.Frag} {H H' : Hp} {w a : Addr} {ns : List Int} {ts : List V} (hw : H w = some (.lst ts)) (s : SameT w H H') (h : Scr K H a ns) : Scr K H' a ns := by
  rcases h with ⟨o, h⟩ | h
  · exact .inl ⟨o, s _ _ h (ne_of h hw (by intro z; cases z))⟩
  · exact .inr h
theorem Scr.same {K : PySem.W.Frag} {H H' : Hp} {a : Addr} {ns : List Int} (s : Same H H') (h : Scr K H a ns) : Scr K H' a ns := by
  rcases h with ⟨o, h⟩ | h
  · exact .inl ⟨o, s _ _ h⟩
  · exact .inr h
end L2

set_option Elab.async false
set_option linter.all false
set_option maxRecDepth 100000
set_option maxHeartbeats 1000000
namespace L2
open PySem PySem.Spec PyProof.Rows
/-! ### t + u, whichever is empty -/
noncomputable def rCatU : R2 := fun x y H Q => ∃ a b xs ys, x = .ref a ∧ y = .ref b ∧ H a = some (.tup xs) ∧ H b = some (.tup ys) ∧ xs.length + ys.length ≤ sizeLine ∧ ∀ r H', Same H H' → H' r = some (.tup (xs ++ ys)) → Q (.ref r) H'
theorem op_catU {X : Cx} : OpR X (binaryOp .Add) rCatU := by
  intro pins s σ H x y v u Q I rx ry h
  obtain ⟨a, b, xs, ys, rfl, rfl, ha, hb, hz, q⟩ := h
  by_cases hx : xs = []
  · subst hx
    cases (show v = Value.ref a from rx)
    cases (show u = Value.ref b from ry)
    obtain ⟨its, r1, p1, _⟩ := I.tuple (SqT.of ha)
    obtain ⟨its2, r2, p2, _⟩ := I.tuple (SqT.of hb)
    obtain ⟨⟨cls, dd, data, sl⟩, ho, hc, n, hd⟩ := p1
    obtain ⟨⟨cls2, dd2, data2, sl2⟩, ho2, hc2, n2, hd2⟩ := p2
    simp only at hc hd hc2 hd2
    subst hc hd hc2 hd2
    have e0 : its = [] := r1.nil_iff.mpr rfl
    exact concat_meets ⟨_, ho, rfl⟩ ⟨_, ho2, rfl⟩ noFill_tuple_add seq_tuple_add PySem.F.slot_tuple_add PySem.F.entry_tuple_add (PySem.F.args_tuple_add_2 _ _)
      (tuple_addW0 a b its.toArray its2.toArray n n2 dd dd2 sl sl2 (by simp [e0])) ⟨ho, ho2, ⟨.ref b, H, I, rfl, q b H (Same.refl H) hb⟩⟩
  · refine op_catT pins s σ H _ _ v u Q I rx ry ⟨a, b, xs, ys, rfl, rfl, SqT.of ha, SqT.of hb, hx, hz, fun e => ?_, fun e p hp => ?_⟩
    · subst e
      exact q a H (Same.refl H) (by rw [List.append_nil]; exact ha)
    · exact q p _ (fun b u e => by rw [upd_ne (ne_of_none e hp)]; exact e) upd_same
section
variable {σ : St} {H : Hp} {Q : VK} {D : Ends} {K : PySem.W.Frag}
theorem rd_ifE {t : TT} {ta tb : TE} (h : t σ H fun c H1 => if c = true then ta σ H1 Q else tb σ H1 Q) : tIf t ta tb σ H Q := h
theorem rd_catU {a b : Addr} {xs ys : List V} (ha : H a = some (.tup xs)) (hb : H b = some (.tup ys)) (hz : xs.length + ys.length ≤ sizeLine) (h : ∀ r H', Same H H' → H' r = some (.tup (xs ++ ys)) → Q (.ref r) H') : rCatU (.ref a) (.ref b) H Q :=
  ⟨a, b, xs, ys, rfl, rfl, ha, hb, hz, h⟩
theorem rd_cat {a b : Addr} {xs ys : List V} (ha : H a = some (.lst xs)) (hb : H b = some (.lst ys)) (hz : xs.length + ys.length ≤ sizeLine) (h : ∀ p, H p = none → Q (.ref p) (upd H p (.lst (xs ++ ys)))) : rCat (.ref a) (.ref b) H Q :=
  ⟨a, b, xs, ys, rfl, rfl, ha, hb, hz, h⟩
theorem rd_lstT {p : Addr} {ys : List V} (e : H p = some (.tup ys)) (h : ∀ l, H l = none → Q (.ref l) (upd H l (.lst ys))) : rLstOf K [.ref p] H Q := ⟨p, ys, rfl, .inr (SqT.of e), h⟩
end
end L2

set_option Elab.async false
set_option linter.all false
set_option maxRecDepth 100000
set_option maxHeartbeats 1000000
namespace L2
open PySem PySem.Spec PyProof.Rows
/-! ### exceptions of own classes: how one lies behind a call -/
structure XEnd (P : Program) (w : World) (outer : List Env) (H : Hp) (s : Shared) (e C t : Addr) (H' : Hp) (B : Heap) (s' : Shared) : Prop where
  os : s'.os = s.os
  bare : AllBare s'.gens
  un : Un (frs outer) [] H H' s.heap s'.heap
  cov : ∀ b o, s.heap.get? b = some o → H b = none → b ∉ frs outer → B.get? b = some o
  thr : ∀ b o, s.heap.get? b = some o → b ∉ frs outer → ∃ o', B.get? b = some o'
  hok : HOk P w H' B
  fl : Heap.FlyingW B outer e (.ref C) (.ref t) s'.heap
noncomputable abbrev CXE (P : Program) (w : World) : CXT := fun outer H s E ev s' => ∃ e C t H' B, ev = .ref e ∧ XEnd P w outer H s e C t H' B s' ∧ E (.ref C) none H'
section
variable {CX : CXT} {P : Program} {w : World} {K : PySem.W.Frag} {mg : Str → Option Value} {base : Heap} {N : List Str} {qual : Str} {scope : Scope} {f : Addr} {cd : Value} {A : Around} {outer : List Env} {s₀ : Shared} {H₀ : Hp} {E : XK}
  {pins : List (Addr × Obj)} {σ : St} {H : Hp} {s : Shared}
theorem frs_sub {b : Addr} (hb : b ∈ frs (envOfC qual scope s₀.heap.objs.size f cd :: outer)) : b = s₀.heap.objs.size ∨ b ∈ frs outer := by
  have e : frs (envOfC qual scope s₀.heap.objs.size f cd :: outer) = s₀.heap.objs.size :: frs outer := rfl
  rw [e] at hb
  exact List.mem_cons.mp hb
theorem frs_not {b : Addr} {o : Obj} (h : s₀.heap.get? b = some o) (hb : b ∉ frs outer) : b ∉ frs (envOfC qual scope s₀.heap.objs.size f cd :: outer) := fun z => by
  rcases frs_sub z with e | e
  · exact Nat.lt_irrefl _ (e ▸ Heap.lt_size h)
  · exact hb e
/-- what lies behind a callee lies behind the frame that it leaves -/
theorem XEnd.out {e C t : Addr} {H' : Hp} {B h' : Heap} {s' : Shared} (I : Inv (cxOf CX P w K mg base N qual scope f cd A outer s₀ H₀ E) pins σ H s) (x : XEnd P w (envOfC qual scope s₀.heap.objs.size f cd :: outer) H s e C t H' B s')
    (fl : Heap.FlyingW B outer e (.ref C) (.ref t) h') (up : s'.heap.UpToSlots h') : XEnd P w outer H₀ s₀ e C t H' B { s' with heap := h' } := by
  have cov : ∀ b o, s₀.heap.get? b = some o → H₀ b = none → b ∉ frs outer → B.get? b = some o := fun b o q n nb =>
    x.cov b o (I.base.keep b o q n nb (fun z => nomatch z)) (I.base.free b o q n (fun z => nomatch z)) (frs_not q nb)
  have thr : ∀ b o, s₀.heap.get? b = some o → b ∉ frs outer → ∃ o', B.get? b = some o' := fun b o q nb => by
    obtain ⟨o', e'⟩ := I.base.there b o q (fun z => nomatch z)
    exact x.thr b o' e' (frs_not q nb)
  have slot : ∀ b o, s₀.heap.get? b = some o → b ∈ frs outer → ∃ sl, h'.get? b = some { o with slots := sl } := fun b o q nb => by
    have n : H₀ b = none := I.ok.frf b nb
    obtain ⟨sl, e1⟩ := I.base.slot b o q n nb (fun z => nomatch z)
    obtain ⟨sl2, e2⟩ := x.un.slot b _ e1 (I.base.free b o q n (fun z => nomatch z)) (List.mem_cons_of_mem _ nb) (fun z => nomatch z)
    obtain ⟨_, o3, e3, d3⟩ := I.ok.funs.mem nb
    have : o3 = o := by
      have e3' : s₀.heap.get? b = some o3 := e3
      rw [q] at e3'
      exact (Option.some.inj e3').symm
    subst this
    obtain ⟨sl4, e4⟩ := up b _ e2 d3
    exact ⟨sl4, e4⟩
  refine ⟨x.os.trans I.os, x.bare, ⟨fun b o q n nb _ => fl.1 b o (cov b o q n nb), fun b o q _ nb _ => slot b o q nb, fun b o q n _ => ?_, fun b o q _ => ?_, fun b xs q => ?_, fun b o u q => ?_, fun b ps q => ?_⟩, cov, thr, x.hok, fl⟩
  · obtain ⟨o', e'⟩ := I.base.there b o q (fun z => nomatch z)
    exact x.un.free b o' e' (I.base.free b o q n (fun z => nomatch z)) (fun z => nomatch z)
  · by_cases nb : b ∈ frs outer
    · obtain ⟨sl, e'⟩ := slot b o q nb
      exact ⟨_, e'⟩
    · obtain ⟨o', e'⟩ := thr b o q nb
      exact ⟨o', fl.1 b o' e'⟩
  · exact x.un.tups b xs (I.base.tups b xs q)
  · exact x.un.frzs b o u (I.base.frzs b o u q)
  · obtain ⟨m1, e1⟩ := I.base.tbls b ps q
    obtain ⟨m2, e2⟩ := x.un.tbls b _ e1
    exact ⟨m1 ++ m2, by rw [e2, Array.append_assoc]⟩
theorem passE : Passes (CXE P w) (cxOf (CXE P w) P w K mg base N qual scope f cd A outer s₀ H₀ E) E := by
  intro pins σ H s ev s' I h
  obtain ⟨e, C, t, H', B, rfl, x, q⟩ := h
  show wpAny (model P w) (A.deeper (envOfC qual scope s₀.heap.objs.size f cd)) (leaving (envOfC qual scope s₀.heap.objs.size f cd) (.ref e)) _ _ s'
  exact wpAny_leaves_onW (L := s₀.heap.objs.size) I.ok.frames rfl x.fl fun h' fl up => ⟨e, C, t, H', B, rfl, XEnd.out I x fl up, q⟩
/-- an exception that was just made leaves its frame -/
theorem made_leaves {e C : Addr} {h' : Heap} {vs : List Value} (I : Inv (cxOf (CXE P w) P w K mg base N qual scope f cd A outer s₀ H₀ E) pins σ H s) (hx : Heap.MadeExcOf s.heap h' e (.ref C) vs) (q : E (.ref C) none H) :
    (cxOf (CXE P w) P w K mg base N qual scope f cd A outer s₀ H₀ E).xe (.ref e) { s with heap := h' } := by
  have st : s.heap.FunFrames base (envOfC qual scope s₀.heap.objs.size f cd :: outer) := I.stack
  have hin : ∀ env ∈ (envOfC qual scope s₀.heap.objs.size f cd :: outer), ∀ a, env.frame = some a → a ∈ frs (envOfC qual scope s₀.heap.objs.size f cd :: outer) := fun env he a hf => List.mem_filterMap.mpr ⟨env, he, hf⟩
  have hB : ∀ b o, s.heap.get? b = some o → b ∉ frs (envOfC qual scope s₀.heap.objs.size f cd :: outer) → (PySem.W.hideAll s.heap (frs (envOfC qual scope s₀.heap.objs.size f cd :: outer))).get? b = some o := fun b o q nb => PySem.W.hideAll_get _ q nb
  have hok : HOk P w H (PySem.W.hideAll s.heap (frs (envOfC qual scope s₀.heap.objs.size f cd :: outer))) := fun a o ea =>
    (I.hok a o ea).stay (fun b u hb q => hB b u q fun z => by
      have n := I.stkFree b z
      rcases hb with rfl | hb
      · rw [n] at ea; cases ea
      · rw [n] at hb; cases hb) (fun _ q => q) fun _ _ q => q
  show wpAny (model P w) (A.deeper (envOfC qual scope s₀.heap.objs.size f cd)) (leaving (envOfC qual scope s₀.heap.objs.size f cd) (.ref e)) _ _ { s with heap := h' }
  refine wpAny_leaves_madeW (base := PySem.W.hideAll s.heap (frs (envOfC qual scope s₀.heap.objs.size f cd :: outer))) (h := s.heap) (L := s₀.heap.objs.size) I.ok.frames rfl (fun b o q => PySem.W.of_hideAll _ q) (PySem.W.funFrames_hide st hin) hx fun h2 t fl _ _ up => ?_
  generalize PySem.W.hideAll s.heap (frs (envOfC qual scope s₀.heap.objs.size f cd :: outer)) = B at hB hok fl
  refine ⟨e, C, t, H, B, rfl, ?_, q⟩
  have cov : ∀ b o, s₀.heap.get? b = some o → H₀ b = none → b ∉ frs outer → B.get? b = some o := fun b o q n nb =>
    hB b o (I.base.keep b o q n nb (fun z => nomatch z)) (frs_not q nb)
  have thr : ∀ b o, s₀.heap.get? b = some o → b ∉ frs outer → ∃ o', B.get? b = some o' := fun b o q nb => by
    obtain ⟨o', e'⟩ := I.base.there b o q (fun z => nomatch z)
    exact ⟨o', hB b o' e' (frs_not q nb)⟩
  have slot : ∀ b o, s₀.heap.get? b = some o → b ∈ frs outer → ∃ sl, h2.get? b = some { o with slots := sl } := fun b o q nb => by
    obtain ⟨sl, e1⟩ := I.base.slot b o q (I.ok.frf b nb) nb (fun z => nomatch z)
    obtain ⟨_, o3, e3, d3⟩ := I.ok.funs.mem nb
    have : o3 = o := by
      have e3' : s₀.heap.get? b = some o3 := e3
      rw [q] at e3'
      exact (Option.some.inj e3').symm
    subst this
    obtain ⟨sl4, e4⟩ := up b _ (hx.keeps _ _ e1) d3
    exact ⟨sl4, e4⟩
  refine ⟨I.os, I.bare, ⟨fun b o q n nb _ => fl.1 b o (cov b o q n nb), fun b o q _ nb _ => slot b o q nb, fun b o q n _ => I.base.free b o q n (fun z => nomatch z), fun b o q _ => ?_, I.base.tups, I.base.frzs, I.base.tbls⟩, cov, thr, hok, fl⟩
  by_cases nb : b ∈ frs outer
  · obtain ⟨sl, e'⟩ := slot b o q nb
    exact ⟨_, e'⟩
  · obtain ⟨o', e'⟩ := thr b o q nb
    exact ⟨o', fl.1 b o' e'⟩
/-! ### raise C(..) -/
abbrev bmV : List Value := [.type "ValueError", .type "Exception", .type "BaseException", .type "object"]
noncomputable def tRaise (E : XK) (C : Addr) (t : TA) : TS := fun _ σ H => t σ H fun vs H1 => vs.length ≤ sizeLine ∧ E (.ref C) none H1
theorem own_at {x : Str} {C : Addr} {bmB : List Value} {newId : String} (M : Mod K mg base) (hm : mg x = some (.ref C)) (q : PySem.W.excIn K C bmB newId = true) : OwnCls x C bmB newId mg base := by
  refine ⟨hm, ?_⟩
  have X := M.kin
  unfold PySem.W.excIn at q
  split at q
  · rename_i dd cd sl ho
    split at q
    · rename_i C' bm k0 k1 k2 k3 n k5 h1 h2
      simp only [Bool.and_eq_true, beq_iff_eq, Bool.not_eq_true'] at q
      obtain ⟨⟨⟨⟨⟨rfl, rfl⟩, hdel⟩, ht⟩, hok⟩, hni⟩ := q
      obtain ⟨nm, bs, mro, ns, qn, hd, sn, sub, ab, col, del⟩ := cd
      dsimp only at h1 hdel hok hni
      subst h1 hdel
      have h3 : sl = #[k0, k1, k2, k3, some (.builtin n), k5] := by
        obtain ⟨l⟩ := sl
        simp only at h2
        rw [h2]
      subst h3
      exact ⟨bm, ns, nm, qn, bs, hd, sn, sub, ab, col, dd, k0, k1, k2, k3, k5, _, X _ _ ho, .of_isNs (PySem.W.isNs_of_in X hok), PySem.W.nsMap_none_of_in X hok hni, PySem.W.tail_of_in X ht⟩
    · cases q
  · cases q
theorem ps_raise {x : Str} {C : Addr} {np cpos pos : Pos} {e₀ : Expr} {rest : List Expr} {t : TA} (hm : mg x = some (.ref C)) (qx : PySem.W.excIn K C bmV "ValueError.__new__" = true)
    (hg : Gl (cxOf (CXE P w) P w K mg base N qual scope f cd A outer s₀ H₀ E) x) (ha : PA (cxOf (CXE P w) P w K mg base N qual scope f cd A outer s₀ H₀ E) (e₀ :: rest) t)
    (he : starEach (e₀ :: rest) (cxOf (CXE P w) P w K mg base N qual scope f cd A outer s₀ H₀ E).env = (false, eval e₀ (cxOf (CXE P w) P w K mg base N qual scope f cd A outer s₀ H₀ E).env) :: starEach rest (cxOf (CXE P w) P w K mg base N qual scope f cd A outer s₀ H₀ E).env := by rfl)
    (hpl : (backTo cpos (starEach rest (cxOf (CXE P w) P w K mg base N qual scope f cd A outer s₀ H₀ E).env)).any (·.1) = false := by rfl) (hdb : (x == ("__debug__" : Str)) = false := by decide) :
    PS (cxOf (CXE P w) P w K mg base N qual scope f cd A outer s₀ H₀ E) (.Raise (some (.Call (.Name x np) (e₀ :: rest) [] cpos)) none pos) (tRaise E C t) := by
  intro pins s σ H D I h
  have O : OwnCls x C bmV "ValueError.__new__" mg base := own_at I.ok.mod hm qx
  obtain ⟨tl, Nn, nm, q, bs, hdct, sn, sub, ab, col, dd, k0, k1, k2, k3, k5, mN, hC, hN, hni, T⟩ := O.obj
  refine wpAny_Raise_call_subU (C := C) (nm := nm) (q := q) (N := Nn) (bs := bs) (bm := tl) (hdct := hdct) (sn := sn) (sub := sub) (ab := ab) (col := col) (dd := dd) (k0 := k0) (k1 := k1) (k2 := k2) (k3 := k3) (k5 := k5)
    PySem.F.excBase_ValueError (by decide) PySem.F.excBase_ValueError (mN := mN) (T.hasType PySem.F.excBase_ValueError.hasBase) (I.ok.hd rfl) (by rw [he]; exact hpl) hni (ld_glob I hg O.bound ⟨rfl, ?_⟩ hdb)
  have h1 := ha cpos pins s σ H _ I h
  rw [he] at h1 ⊢
  refine Calls.evalArgs_plain (wpAny_mono h1 (fun us s2 ⟨vs, H1, I1, r, q1, q2⟩ => ⟨rfl, by rw [← r.length]; exact q1, I1.bk _ _ hC, hN.keeps I1.bk, T.keeps I1.bk, fun h' e hm => made_leaves I1 hm q2⟩) fun _ _ y => y)
/-- THE RULE for a def that may raise -/
theorem Fun.okX {x qual : Str} {st : Stmt} {f : Addr} {fd : FuncData} {N ps : List Str} {k : Nat} {sp : Sp} (F : Fun K x qual st f fd) (S : FnScope N ps (defScope st)) (len : ∀ vs H Q E, sp vs H Q E → vs.length = ps.length)
    (hbody : ∀ (cdv : Value) (A : Around) (outer : List Env) (s : Shared) (H : Hp) (vs : List V) (Q : VK) (E : XK), Room k (A.deeper (envOfC qual (defScope st) s.heap.objs.size f cdv)) → sp vs H Q E →
      ∃ t, PSs (cxOf (CXE P w) P w K mg base N qual (defScope st) f cdv A outer s H E) (defBody st) t ∧ t { nx := fun _ H' => Q .non H', rt := Q } (start N vs) H) : FnOk P w K mg base (CXE P w) (k + 1) f fd ps sp := by
  obtain ⟨oc, od, kV, doc, pm, an, cdv, ct, osl, rfl, lk, hcd⟩ := F.ex
  exact fn_of lk hcd S len fun A outer s H vs Q E hr hsp => hbody cdv A outer s H vs Q E hr hsp
end
end L2

set_option Elab.async false
set_option linter.all false
set_option maxRecDepth 100000
set_option maxHeartbeats 1000000
namespace L2
open PySem PySem.Spec PyProof.Rows
section
variable {P : Program} {w : World} {l : List Env} {H H' : Hp} {s s' : Shared} {e C t : Addr} {B h' : Heap}
/-- the exception moves on, all else is kept -/
theorem XEnd.move (x : XEnd P w l H s e C t H' B s') (fr : ∀ b ∈ frs l, H b = none) (fl : Heap.FlyingW B l e (.ref C) (.ref t) h') (up : s'.heap.UpToSlots h') : XEnd P w l H s e C t H' B { s' with heap := h' } := by
  have slot : ∀ b o, s.heap.get? b = some o → b ∈ frs l → ∃ sl, h'.get? b = some { o with slots := sl } := fun b o q nb => by
    obtain ⟨sl, e1⟩ := x.un.slot b o q (fr b nb) nb (fun z => nomatch z)
    obtain ⟨_, o3, e3, d3⟩ := x.fl.2.2.1.mem nb
    have : o3 = { o with slots := sl } := Option.some.inj (e3.symm.trans e1)
    subst this
    obtain ⟨sl2, e2⟩ := up b _ e1 d3
    exact ⟨sl2, e2⟩
  refine ⟨x.os, x.bare, ⟨fun b o q n nb _ => fl.1 b o (x.cov b o q n nb), fun b o q _ nb _ => slot b o q nb, x.un.free, fun b o q _ => ?_, x.un.tups, x.un.frzs, x.un.tbls⟩, x.cov, x.thr, x.hok, fl⟩
  by_cases nb : b ∈ frs l
  · obtain ⟨sl, e1⟩ := slot b o q nb
    exact ⟨_, e1⟩
  · obtain ⟨o', e1⟩ := x.thr b o q nb
    exact ⟨o', fl.1 b o' e1⟩
theorem XEnd.new (x : XEnd P w l H s e C t H' B s') : s.heap.get? e = none := by
  cases q : s.heap.get? e with
  | none => rfl
  | some o =>
    exfalso
    by_cases nb : e ∈ frs l
    · obtain ⟨_, o3, e3, d3⟩ := x.fl.2.2.1.mem nb
      obtain ⟨oe, vs, he, _, hd, _⟩ := x.fl.first
      rw [e3] at he
      cases he
      exact d3 vs hd
    · obtain ⟨o', e1⟩ := x.thr e o q nb
      rw [x.fl.2.1] at e1
      cases e1
theorem XEnd.free (x : XEnd P w l H s e C t H' B s') : H' e = none := by
  cases q : H' e with
  | none => rfl
  | some o =>
    obtain ⟨u, e1⟩ := (x.hok e o q).there
    rw [x.fl.2.1] at e1
    cases e1
end
section
variable {X : Cx} {pins : List (Addr × Obj)} {σ : St} {H H' : Hp} {s s' : Shared} {e C t : Addr} {B : Heap}
theorem Inv.exc (I : Inv X pins σ H s) (x : XEnd X.prog X.w X.stack H s e C t H' B s') : Inv X pins σ H' s' :=
  I.call' x.os x.un (x.hok.kept x.fl.1) x.bare (fun _ z => nomatch z)
/-- what is known of a caught exception: its class -/
noncomputable def excO (e C : Addr) : HO := .ext fun h => ∃ ob, h.get? e = some ob ∧ ob.cls = .ref C ∧ ∃ vs, ob.data = .fields vs
theorem Inv.track {o : HO} (J : Inv X pins σ H s) (hn : H e = none) (h0 : X.s₀.heap.get? e = none) (hL : e ≠ X.env.locals) (hc : ∀ x c, X.env.cells.lookup x = some c → c ≠ e) (hp : ∀ p ∈ X.pn ++ pins, p.1 ≠ e)
    (ho : ObjOk X.prog X.w (upd H e o) s.heap e o) : Inv X pins σ (upd H e o) s := by
  have ne : ∀ b u, H b = some u → b ≠ e := fun b u q z => by rw [z, hn] at q; cases q
  have up : ∀ b u, H b = some u → upd H e o b = some u := fun b u q => by rw [upd_ne (ne b u q)]; exact q
  refine ⟨J.ok, J.os, J.bare, ⟨J.base.keep, J.base.slot, fun b ob q n hx => ?_, J.base.there, fun b xs q => up _ _ (J.base.tups b xs q), fun b ob u q => up _ _ (J.base.frzs b ob u q), fun b ps q => ?_⟩, J.loc, J.cell, ?_, fun y c q => ?_, fun p hq => ?_, fun b u q => ?_, J.len⟩
  · have : b ≠ e := fun z => by rw [z, h0] at q; cases q
    rw [upd_ne this]
    exact J.base.free b ob q n hx
  · obtain ⟨m, q⟩ := J.base.tbls b ps q
    exact ⟨m, up _ _ q⟩
  · rw [upd_ne (Ne.symm hL)]; exact J.free
  · rw [upd_ne (hc y c q)]; exact J.freeC y c q
  · obtain ⟨a1, a2, a3, a4, a5⟩ := J.pin p hq
    exact ⟨a1, by rw [upd_ne (hp p hq)]; exact a2, a3, a4, a5⟩
  · by_cases z : b = e
    · subst z
      rw [upd_same] at q
      cases q
      exact ho
    · rw [upd_ne z] at q
      exact (J.hok b u q).stay (fun _ _ _ q => q) (fun c q => up _ _ q) fun c xs q => up _ _ q
/-- the frame forgets a local -/
theorem Inv.forget {i : Nat} {x : Str} {m : Str → Option Value} {v : Option Value} {h' : Heap} {t' : Nat} (I : Inv X pins σ H s) (hN : X.N.Nodup) (hi : X.N[i]? = some x) (hk : X.env.scope.names.lookup x = some .local)
    (hn : s.heap.Ns X.env.locals m) (hn' : h'.Ns X.env.locals (fun y => if y = x then v else m y)) (hs : Heap.SameBut X.env.locals s.heap h') : Inv X pins (σ.set i none) H { s with heap := h', toks := t' } := by
  obtain ⟨m0, hn0, hl0⟩ := id I.loc
  obtain rfl : m0 = m := ns_one hn0 hn
  have nL : ∀ b o, X.s₀.heap.get? b = some o → b ≠ X.env.locals := fun b o q => Nat.ne_of_lt (Nat.lt_of_lt_of_le (Heap.lt_size q) I.ok.above)
  refine ⟨I.ok, I.os, I.bare, ⟨fun b o q n hb hx => (hs.2 b (nL b o q)).trans (I.base.keep b o q n hb hx), fun b o q n hb hx => ?_, I.base.free, fun b o q hx => ?_, I.base.tups, I.base.frzs, I.base.tbls⟩, ⟨_, hn', fun j y v' e1 e2 e3 => ?_⟩, fun y c q => ?_, I.free, I.freeC, fun p hp => ?_, fun b ob q => ?_, by rw [List.length_set]; exact I.len⟩
  · obtain ⟨sl, e1⟩ := I.base.slot b o q n hb hx
    exact ⟨sl, (hs.2 b (nL b o q)).trans e1⟩
  · obtain ⟨o', e1⟩ := I.base.there b o q hx
    exact ⟨o', (hs.2 b (nL b o q)).trans e1⟩
  · have hj : j ≠ i := fun z => by
      subst z
      by_cases hlt : j < σ.length
      · rw [List.getElem?_set_self hlt] at e2; cases e2
      · rw [List.getElem?_eq_none (by rw [List.length_set]; omega)] at e2; cases e2
    rw [List.getElem?_set_ne (Ne.symm hj)] at e2
    obtain ⟨u', r', q⟩ := hl0 j y v' e1 e2 e3
    refine ⟨u', r', ?_⟩
    rcases q with ⟨k, q⟩ | ⟨k, c, q, z⟩
    · refine .inl ⟨k, ?_⟩
      have : y ≠ x := fun q => hj (nodup_ix hN e1 (q ▸ hi))
      simp [this, q]
    · exact .inr ⟨k, c, q, z.sameBut hs (I.cne y c q)⟩
  · obtain ⟨w', z⟩ := I.cell y c q
    exact ⟨w', z.sameBut hs (I.cne y c q)⟩
  · obtain ⟨a1, a2, a3, a4, a5⟩ := I.pin p hp
    exact ⟨(hs.2 p.1 a3).trans a1, a2, a3, a4, a5⟩
  · refine (I.hok b ob q).stay (fun c w' hc z => (hs.2 c ?_).trans z) (fun _ z => z) fun _ _ z => z
    rintro rfl
    have fr := I.free
    rcases hc with rfl | hc
    · rw [fr] at q; cases q
    · rw [fr] at hc; cases hc
/-! ### within an except suite -/
noncomputable abbrev Cx.hand (X : Cx) (e : Addr) : Cx := { X with A := X.A.mark (some (.ref e)), calm := false, xe := fun _ _ => False }
theorem Inv.hand (I : Inv X pins σ H s) (e : Addr) : Inv (X.hand e) pins σ H s :=
  ⟨⟨I.ok.mod, I.ok.kind, I.ok.glob, I.ok.blt, I.ok.above, I.ok.inj, I.ok.has, I.ok.cab, (fun z => absurd z Bool.false_ne_true), I.ok.frames, I.ok.stk, I.ok.exf, I.ok.bs, I.ok.bsz, I.ok.noex, I.ok.exfs, I.ok.funs, I.ok.frf⟩, I.os, I.bare, I.base, I.loc, I.cell, I.free, I.freeC, I.pin, I.hok, I.len⟩
theorem Inv.unhand (hd : X.calm = true → X.A.handled = none) (I : Inv (X.hand e) pins σ H s) : Inv X pins σ H s :=
  ⟨⟨I.ok.mod, I.ok.kind, I.ok.glob, I.ok.blt, I.ok.above, I.ok.inj, I.ok.has, I.ok.cab, hd, I.ok.frames, I.ok.stk, I.ok.exf, I.ok.bs, I.ok.bsz, I.ok.noex, I.ok.exfs, I.ok.funs, I.ok.frf⟩, I.os, I.bare, I.base, I.loc, I.cell, I.free, I.freeC, I.pin, I.hok, I.len⟩
/-- what is wanted where an exception of the class at C is caught by a suite, whose name stands in slot i -/
noncomputable def tHand (K : PySem.W.Frag) (Dc : Addr) (i : Nat) (th : TS) (D : Ends) : XK := fun cls _ H' => ∃ C, cls = .ref C ∧ PySem.W.exmOne K (.ref C) (.ref Dc) = some true ∧ ∀ (e : Addr) (σ : St), H' e = none → i < σ.length →
  th { nx := fun σ H => D.nx (σ.set i none) H, rt := D.rt, bk := fun σ H => D.bk (σ.set i none) H, ct := fun σ H => D.ct (σ.set i none) H } (σ.set i (some (.ref e))) (upd H' e (excO e C))
noncomputable abbrev Cx.pinned (X : Cx) (pn : List (Addr × Obj)) (E1 : Value → Shared → Prop) : Cx := { X with pn := pn, xe := E1 }
theorem Inv.pn1 (I : Inv X pins σ H s) (E1 : Value → Shared → Prop) : Inv (X.pinned (X.pn ++ pins) E1) [] σ H s :=
  ⟨⟨I.ok.mod, I.ok.kind, I.ok.glob, I.ok.blt, I.ok.above, I.ok.inj, I.ok.has, I.ok.cab, I.ok.hd, I.ok.frames, I.ok.stk, I.ok.exf, I.ok.bs, I.ok.bsz, I.ok.noex, I.ok.exfs, I.ok.funs, I.ok.frf⟩, I.os, I.bare, I.base, I.loc, I.cell, I.free, I.freeC, fun p hp => I.pin p (by simpa using hp), I.hok, I.len⟩
theorem Inv.unpn1 {E1 : Value → Shared → Prop} {pins' : List (Addr × Obj)} (I : Inv (X.pinned (X.pn ++ pins) E1) pins' σ H s) : Inv X pins σ H s :=
  ⟨⟨I.ok.mod, I.ok.kind, I.ok.glob, I.ok.blt, I.ok.above, I.ok.inj, I.ok.has, I.ok.cab, I.ok.hd, I.ok.frames, I.ok.stk, I.ok.exf, I.ok.bs, I.ok.bsz, I.ok.noex, I.ok.exfs, I.ok.funs, I.ok.frf⟩, I.os, I.bare, I.base, I.loc, I.cell, I.free, I.freeC, fun p hp => I.pin p (List.mem_append_left _ hp), I.hok, I.len⟩
theorem SP.unpinned {E1 : Value → Shared → Prop} {pins' : List (Addr × Obj)} {D : Ends} {f : Flow} (h : SP (X.pinned (X.pn ++ pins) E1) pins' D f s') : SP X pins D f s' := by
  cases f with
  | next => obtain ⟨σ', H', I, q⟩ := h; exact ⟨σ', H', I.unpn1, q⟩
  | brk => obtain ⟨σ', H', I, q⟩ := h; exact ⟨σ', H', I.unpn1, q⟩
  | cont => obtain ⟨σ', H', I, q⟩ := h; exact ⟨σ', H', I.unpn1, q⟩
  | ret u => obtain ⟨v, σ', H', I, r, q⟩ := h; exact ⟨v, σ', H', I.unpn1, r, q⟩
theorem ps_try {x n : Str} {Dc : Addr} {i : Nat} {np hpos pos : Pos} {body suite : List Stmt} {b₀ : Stmt} {tb : XK → TS} {th : TS} (hcalm : X.calm = true) (hN : X.N.Nodup) (hi : X.N[i]? = some n) (hk : X.env.scope.names.lookup n = some .local)
    (hex : X.ex = []) (hstk : X.stack = X.env :: X.outer) (hfr : X.env.frame = some X.env.locals) (hg : Gl X x) (hm : X.mg x = some (.ref Dc))
    (hb : ∀ (pn : List (Addr × Obj)) (E1 : Value → Shared → Prop) (Eb : XK), Passes (CXE X.prog X.w) (X.pinned pn E1) Eb → PSs (X.pinned pn E1) body (tb Eb)) (hh : ∀ e, PSs (X.hand e) (b₀ :: suite) th) (hdb : (x == ("__debug__" : Str)) = false := by decide) :
    PS X (.Try body [.ExceptHandler (some (.Name x np)) (some n) (b₀ :: suite) hpos] [] [] pos) (fun D σ H => tb (tHand X.K Dc i th D) D σ H) := by
  intro pins s σ H D I h
  refine wpAny_Try_except ?_
  refine wpAny_mono (hb (X.pn ++ pins) (fun ev s₁ => wpAny (model X.prog X.w) X.A (noteFrame ev X.env) (fun _ s₂ => wpAny (model X.prog X.w) X.A (setFlight ev none) (fun _ s₃ => wpAny (model X.prog X.w) X.A (handleBy ev X.env [.ExceptHandler (some (.Name x np)) (some n) (b₀ :: suite) hpos]) (SP X pins D) X.xe s₃) X.xe s₂) X.xe s₁)
    (tHand X.K Dc i th D) ?_ [] s σ H D (I.pn1 _) h) (fun f s1 hs => ?_) fun _ _ z => z
  rotate_left
  · cases f with
    | next => exact wpAny_execs_nil (SP.unpinned hs)
    | brk => exact SP.unpinned hs
    | cont => exact SP.unpinned hs
    | ret u => exact SP.unpinned hs
  intro pins' σ' H1 s1 ev s' I1 hx
  obtain ⟨e, C, t, H', B, rfl, x0, q⟩ := hx
  have I1 : Inv X pins σ' H1 s1 := I1.unpn1
  obtain ⟨C', hC', hcm, q⟩ := q
  cases hC'
  have fr : ∀ b ∈ frs X.stack, H1 b = none := fun b hb => I1.stkFree b hb
  have fls := x0.fl
  have ef : (X.pinned (X.pn ++ pins) (fun ev s₁ => wpAny (model X.prog X.w) X.A (noteFrame ev X.env) (fun _ s₂ => wpAny (model X.prog X.w) X.A (setFlight ev none) (fun _ s₃ => wpAny (model X.prog X.w) X.A (handleBy ev X.env [.ExceptHandler (some (.Name x np)) (some n) (b₀ :: suite) hpos]) (SP X pins D) X.xe s₃) X.xe s₂) X.xe s₁)).stack = X.stack := rfl
  rw [ef] at x0 fls
  rw [hstk] at fls
  show wpAny (model X.prog X.w) X.A (noteFrame (.ref e) X.env) _ _ s'
  refine wpAny_looks_onW (outer := X.outer) (L := X.env.locals) (by rw [← hstk]; exact I1.ok.frames) hfr fls fun h4 held up4 => ?_
  refine wpAny_landsW held fun h5 fl5 up5 => ?_
  have x5 := x0.move fr (by rw [hstk]; exact fl5) (up4.trans up5)
  have J5 := I1.exc x5
  have XI : X.K.In h5 := J5.kIn
  obtain ⟨ob, hob, hoc⟩ := fl5.there
  have LT : PySem.W.Looks (model X.prog X.w) h5 (typeOf (.ref e)) (.ref C) := hoc ▸ (PySem.W.Looks.ld hob).andThen .now
  have LM : PySem.W.Looks (model X.prog X.w) h5 (excMatches (.ref e) (.ref Dc)) true := PySem.W.exm_one XI LT hcm
  refine wpAny_handleBy_cons (codeAny_handlers_test ?_) (by intro z; cases z)
  refine ld_glob (X := X.hand e) (J5.hand e) hg hm ?_ hdb
  refine LM.here ?_
  refine codeAny_handlers_suite_as ?_
  refine lands_againW fl5 fun h6 fl6 up6 => ?_
  have x6 := x5.move fr (by rw [hstk]; exact fl6) up6
  have J6 : Inv X pins σ' H' { s' with heap := h6 } := I1.exc x6
  obtain ⟨oe, vs, he, hec, hed, _⟩ := fl6.first
  have new1 : s1.heap.get? e = none := x0.new
  have J7 : Inv X pins σ' (upd H' e (excO e C)) { s' with heap := h6 } := by
    refine J6.track x6.free ?_ ?_ ?_ ?_ ?_
    · cases q0 : X.s₀.heap.get? e with
      | none => rfl
      | some o =>
        obtain ⟨o', q1⟩ := I1.base.there e o q0 (by rw [hex]; exact fun z => nomatch z)
        rw [new1] at q1; cases q1
    · rintro rfl
      obtain ⟨m, ⟨o, _, _, ho, _⟩, _⟩ := I1.loc
      rw [new1] at ho; cases ho
    · rintro y c q1 rfl
      obtain ⟨v, o, ho, _⟩ := I1.cell y c q1
      rw [new1] at ho; cases ho
    · rintro p hp rfl
      have := (I1.pin p hp).1
      rw [new1] at this; cases this
    · exact ⟨⟨oe, he, hec, vs, hed⟩, ⟨oe, he⟩, fun h1 h2 ⟨o1, a1, a2⟩ k => ⟨o1, k _ a1, a2⟩⟩
  refine store_ok (X := X.hand e) (v := .ref e) (J7.hand e) hN hi (.inl hk) rfl (fun s8 J8 => ?_) (.inr hk)
  refine wpAny_mono (hh e pins s8 _ _ _ J8 (q e σ' x6.free (by rw [I1.len]; exact (List.getElem?_eq_some_iff.mp hi).1))) (fun f s9 hs => ?_) fun _ _ z => False.elim z
  have fin : ∀ (σ9 : St) (H9 : Hp), Inv (X.hand e) pins σ9 H9 s9 → ∀ (Q : Unit → Shared → Prop), (∀ s10, Inv X pins (σ9.set i none) H9 s10 → Q () s10) → wpAny (model X.prog X.w) X.A (do bindName X.env n .none; unbindBehindTheSuite X.env n hpos) Q X.xe s9 := fun σ9 H9 J9 Q hQ => by
    have J9 : Inv X pins σ9 H9 s9 := J9.unhand I.ok.hd
    obtain ⟨m, hn, _⟩ := id J9.loc
    refine wpAny_nameGoes_keeps hk hn (by rw [J9.ok.kind]; rfl) fun h' v hn' hs' => hQ _ (J9.forget hN hi hk hn hn' hs')
  cases f with
  | next =>
    obtain ⟨σ9, H9, J9, q9⟩ := hs
    exact fin σ9 H9 J9 _ fun s10 J10 => ⟨_, _, J10, q9⟩
  | brk =>
    obtain ⟨σ9, H9, J9, q9⟩ := hs
    exact fin σ9 H9 J9 _ fun s10 J10 => ⟨_, _, J10, q9⟩
  | cont =>
    obtain ⟨σ9, H9, J9, q9⟩ := hs
    exact fin σ9 H9 J9 _ fun s10 J10 => ⟨_, _, J10, q9⟩
  | ret u =>
    obtain ⟨v, σ9, H9, J9, r9, q9⟩ := hs
    exact fin σ9 H9 J9 _ fun s10 J10 => ⟨v, _, _, J10, r9, q9⟩
end
end L2

set_option Elab.async false
set_option linter.all false
set_option maxRecDepth 100000
set_option maxHeartbeats 1000000
namespace L2
open PySem PySem.Spec PyProof.Rows
/-- what is known of an own error class -/
structure ExcC (K : PySem.W.Frag) (C : Addr) : Prop where
  exc : PySem.W.excIn K C bmV "ValueError.__new__" = true
  ga : PySem.W.findIn K (.ref C) "__getattribute__" = some (some (.builtin "BaseException.__getattribute__"))
  gn : PySem.W.findIn K (.ref C) "__getattr__" = some none
  gc : PySem.W.findIn K (.ref C) "__class__" = some (some (.builtin "object.__class__"))
  sb : PySem.W.subIn K (.ref C) (.type "BaseException") = some true
  so : PySem.W.subIn K (.ref C) (.type "object") = some true
  cl : ∃ cd, PySem.W.clsIn K C = some cd
section
variable {prog : Program} {w : World} {A : Around} {E : Value → Shared → Prop} {h : Heap} {g : Array GenState} {d : Drawn} {t : Nat} {os : OsState} {a C : Addr} {o : Obj} {K : PySem.W.Frag}
theorem class_get_exc {R : Result → Shared → Prop} (X : K.In h) (Z : ExcC K C) (hx : h.get? a = some o) (hc : o.cls = .ref C) (hq : R (.ok (.ret (.ref C))) ⟨h, g, d, t, os⟩) :
    codeAny (model prog w) A (.call (.builtin "getset_descriptor.__get__") ⟨[.builtin "object.__class__", .ref a, .ref C], []⟩) R ⟨h, g, d, t, os⟩ := by
  have hT5 : (⟨h, g, d, t, os⟩ : Shared).TypeIs (.builtin "object.__class__") "getset_descriptor" := F.typeOf_object_class
  have Ls : PySem.W.Looks (model prog w) h (isSubtype (.ref C) (.type (".".intercalate ("object.__class__".cutAt '.').dropLast))) true := by
    rw [F.owner_object_class]; exact PySem.W.looks_subIn X Z.so
  refine codeAny_call_builtin F.slot_gs_get.plain F.entry_gs_get (F.slot_gs_get.check _ _ _ _ _ _ _ _ hT5 (F.args_gs_get _ _ _) ?_)
  repeat (any_goals (first | assumption | (with_reducible refine wpAny_loadPart_at hx ?_; rw [hc]) | (with_reducible refine PySem.W.Looks.at Ls ?_) | wp_step))
  refine ⟨Code.quiet_builtin _ (by decide +kernel), codeAny_builtin F.entry_object_class ?_⟩
  repeat (any_goals (first | assumption | (with_reducible refine wpAny_loadPart_at hx ?_; rw [hc]) | wp_step))
theorem class_entry_exc {tk : Tok} {Q : Fin → Shared → Prop} (X : K.In h) (Z : ExcC K C) (hx : h.get? a = some o) (hc : o.cls = .ref C) (hq : Q (.done (.ret (.ref C))) ⟨h, g, d, t, os⟩) :
    wpAny (model prog w) A (Builtin.«object.__getattribute__» ⟨[.ref a, .str "__class__" tk], []⟩) Q E ⟨h, g, d, t, os⟩ := by
  have hT5 : (⟨h, g, d, t, os⟩ : Shared).TypeIs (.builtin "object.__class__") "getset_descriptor" := F.typeOf_object_class
  have f5 := F.typeOf_object_class
  have f6 := F.slot_gs_get.lookup
  have f7 := F.slot_gs_set.lookup
  have Lc : PySem.W.Looks (model prog w) h (typeLookup (.ref C) "__class__") (some (.builtin "object.__class__")) := PySem.W.looks_findIn X Z.gc
  repeat (any_goals (first | assumption | (with_reducible refine wpAny_loadPart_at hx ?_; rw [hc]) | (with_reducible refine PySem.W.Looks.at Lc ?_) | wp_step))
  refine class_get_exc X Z hx hc ?_
  repeat (any_goals (first | assumption | wp_step))
theorem check_ga_exc {M : Model} {nameV : Value} {Q : Unit → Shared → Prop} (X : K.In h) (Z : ExcC K C) (hx : h.get? a = some o) (hc : o.cls = .ref C) (hq : Q () ⟨h, g, d, t, os⟩) :
    wpAny M A (checkBuiltinCall "BaseException.__getattribute__" ⟨[.ref a, nameV], []⟩) Q E ⟨h, g, d, t, os⟩ := by
  have hk : builtinKind "BaseException.__getattribute__" = some .slot := by decide +kernel
  have hsplit : splitId "BaseException.__getattribute__" = some ("BaseException", "__getattribute__") := by decide +kernel
  have ha := F.args_bexc_ga (.ref a) nameV
  have Ls : PySem.W.Looks M h (isSubtype (.ref C) (.type "BaseException")) true := PySem.W.looks_subIn X Z.sb
  simp only [checkBuiltinCall, hk, hsplit]
  refine wpAny_bind ?_
  unfold isInstance
  repeat (first | (with_reducible refine wpAny_loadPart_at hx ?_; rw [hc]) | (with_reducible refine PySem.W.Looks.at Ls ?_) | wp_step)
  exact hq
theorem class_call_exc {tk : Tok} {R : Result → Shared → Prop} (X : K.In h) (Z : ExcC K C) (hx : h.get? a = some o) (hc : o.cls = .ref C) (hq : R (.ok (.ret (.ref C))) ⟨h, g, d, t, os⟩) :
    codeAny (model prog w) A (.call (.builtin "BaseException.__getattribute__") ⟨[.ref a, .str "__class__" tk], []⟩) R ⟨h, g, d, t, os⟩ :=
  codeAny_call_builtin PySem.F.excAttr_ValueError.ga.plain F.entry_bexc_ga (check_ga_exc X Z hx hc (class_entry_exc X Z hx hc hq))
theorem class_by_exc {tk : Tok} {Q : Value → Shared → Prop} (X : K.In h) (Z : ExcC K C) (hx : h.get? a = some o) (hc : o.cls = .ref C) (hq : Q (.ref C) ⟨h, g, d, t, os⟩) :
    wpAny (model prog w) A (getAttrBy (.ref a) (.str "__class__" tk) false) Q E ⟨h, g, d, t, os⟩ := by
  have f3 := PySem.F.excAttr_ValueError.ga.bind (.ref a)
  have hx2 : (Value.builtin "BaseException.__getattribute__" == Value.builtin "object.__getattribute__") = false := by decide +kernel
  have L1 : PySem.W.Looks (model prog w) h (typeLookup (.ref C) "__getattribute__") (some (.builtin "BaseException.__getattribute__")) := PySem.W.looks_findIn X Z.ga
  have L2 : PySem.W.Looks (model prog w) h (typeLookup (.ref C) "__getattr__") none := PySem.W.looks_findIn X Z.gn
  have hx1 : (onTheHeap (Value.ref C) && Value.builtin "BaseException.__getattribute__" == Value.builtin "object.__getattribute__") = false := by rw [hx2]; rfl
  repeat (any_goals (first | assumption | (with_reducible refine wpAny_loadPart_at hx ?_; rw [hc]) | (with_reducible refine PySem.W.Looks.at L1 ?_) | (with_reducible refine PySem.W.Looks.at L2 ?_) | wp_step))
  refine class_call_exc X Z hx hc ?_
  repeat (any_goals (first | assumption | wp_step))
theorem class_attr_exc {Q : Option Value → Shared → Prop} (X : K.In h) (Z : ExcC K C) (hx : h.get? a = some o) (hc : o.cls = .ref C) (hq : Q (some (.ref C)) ⟨h, g, d, t + 1, os⟩) :
    wpAny (model prog w) A (getAttr? (.ref a) "__class__") Q E ⟨h, g, d, t, os⟩ := by
  unfold getAttr? getAttrBy?
  repeat (any_goals (first | assumption | with_reducible apply class_by_exc X Z hx hc | wp_step))
end
end L2

set_option Elab.async false
set_option linter.all false
set_option maxRecDepth 100000
set_option maxHeartbeats 1000000
namespace L2
open PySem PySem.Spec PyProof.Rows
/-! ### isinstance of a caught exception -/
theorem kitx_exc {K : PySem.W.Frag} {e C : Addr} (Z : ExcC K C) : PySem.W.KitX K (.ref e) (.ref C) (fun h => ∃ ob, h.get? e = some ob ∧ ob.cls = .ref C) where
  ty := fun _ h _ ⟨ob, h1, h2⟩ => h2 ▸ (PySem.W.Looks.ld h1).andThen .now
  it := fun _ _ X _ => by
    obtain ⟨_, z⟩ := Z.cl
    unfold PySem.W.clsIn at z
    split at z
    · rename_i c' d' cd' sl' ho
      intro A' Q' E' s' k q
      unfold isType loadHead
      exact wpAny_bind (wpAny_loadPart (k _ _ (X _ _ ho)) (wpAny_pure q))
    · cases z
  ne := fun h tp dd its n sl X htp => by
    refine Bool.eq_false_iff.mpr fun q => ?_
    have e : C = tp := Value.ref.inj (beq_iff_eq.mp q)
    subst e
    obtain ⟨_, z⟩ := Z.cl
    unfold PySem.W.clsIn at z
    split at z
    · rename_i c' d' cd' sl' ho
      have z := (X _ _ ho).symm.trans htp
      cases z
    · cases z
  ca := fun {_ _ _ _ _ s} X p k => by
    obtain ⟨hh, g, d, t, os⟩ := s
    obtain ⟨ob, h1, h2⟩ := p
    exact class_attr_exc X Z h1 h2 k
theorem bt_ValueError : bootBuiltins "ValueError" = some (.type "ValueError") := by decide +kernel
section
variable {X : Cx}
noncomputable def rIsX (K : PySem.W.Frag) : List V → Hp → VK → Prop := fun xs H Q => ∃ e C b, H e = some (excO e C) ∧ ExcC K C ∧ ((∃ D, xs = [.ref e, .ref D] ∧ PySem.W.kitOne K (.ref C) (.ref D) = some b) ∨ ∃ T, xs = [.ref e, .ty T] ∧ PySem.W.kitOne K (.ref C) (.type T) = some b) ∧ Q (.bl b) H
theorem call_isX : CallR X (.builtin "isinstance") (rIsX X.K) := by
  intro pins s σ H xs us Q I r h
  obtain ⟨e, C, b, he, Z, hk, q⟩ := h
  have ho := I.hok e _ he
  obtain ⟨⟨ob, h1, h2, _⟩, _⟩ := ho
  rcases hk with ⟨D, rfl, hk⟩ | ⟨T, rfl, hk⟩
  · obtain ⟨u, v, rfl, rx, ry⟩ := Vals.two r
    cases (show u = Value.ref e from rx)
    cases (show v = Value.ref D from ry)
    exact PySem.W.kia_one (kitx_exc Z) I.kIn ⟨ob, h1, h2⟩ hk (fun z => nomatch z) fun tk => ⟨.bl _, H, I.tok tk, rfl, q⟩
  · obtain ⟨u, v, rfl, rx, ry⟩ := Vals.two r
    cases (show u = Value.ref e from rx)
    cases (show v = Value.type T from ry)
    exact PySem.W.kia_one (kitx_exc Z) I.kIn ⟨ob, h1, h2⟩ hk (fun z => nomatch z) fun tk => ⟨.bl _, H, I.tok tk, rfl, q⟩
theorem k_isX (K : PySem.W.Frag) (h : X.K = K := by rfl) : CallR X (.builtin "isinstance") (rIsX K) := h ▸ call_isX
/-! ### count, index over a list of bools -/
theorem vals_bl : ∀ {bs : List Bool} {us : List Value}, Vals (bs.map V.bl) us → us = bs.map Value.bool
  | [], _, .nil => rfl
  | b :: bs, _, .cons r t => by
    cases (show _ = Value.bool b from r)
    rw [vals_bl t]
    rfl
noncomputable def isB (b : Bool) : Value → Bool
  | .bool a => a == b
  | _ => false
noncomputable def rCountB : V → List V → Hp → VK → Prop := fun x vs H Q => ∃ (l : Addr) (bs : List Bool) (b : Bool), x = .ref l ∧ vs = [.bl b] ∧ H l = some (.lst (bs.map V.bl)) ∧ Q (.int (bs.countP (· == b) : Nat)) H
theorem mt_countB : MtM X "list.count" rCountB := by
  intro pins s σ H x vs v us Q I rx rv h
  obtain ⟨l, bs, b, rfl, rfl, hH, q⟩ := h
  cases (show v = Value.ref l from rx)
  obtain ⟨u, rfl, ru⟩ := rv.one
  cases (show u = Value.bool b from ru)
  obtain ⟨z, its, n, r, hl, e⟩ := I.lstM hH
  obtain rfl := vals_bl r
  refine call_meets F.slot_list_count ⟨_, e, rfl⟩ F.entry_list_count (F.args_list_count_2 _ _) (SeqAt.list_countAt l _ n none #[] (.bool b) (isB b)) ⟨e, fun y hy => ?_, ?_⟩
  · have hy' : y ∈ bs.map Value.bool := by simpa using hy
    obtain ⟨a, _, rfl⟩ := List.mem_map.mp hy'
    exact SeqAt.EqAt.bool_bool a b
  · refine ⟨.int _, H, I.tok _, ⟨_, rfl⟩, ?_⟩
    have : List.countP (isB b) (List.map Value.bool bs).toArray.toList = bs.countP (· == b) := by
      rw [List.toList_toArray, List.countP_map]
      rfl
    rw [this]
    exact q
noncomputable def rIndexB : V → List V → Hp → VK → Prop := fun x vs H Q => ∃ (l : Addr) (bs : List Bool) (b : Bool) (j : Nat), x = .ref l ∧ vs = [.bl b] ∧ H l = some (.lst (bs.map V.bl)) ∧ bs[j]? = some b ∧ (∀ m, m < j → bs[m]? ≠ some b) ∧ Q (.int (j : Nat)) H
theorem mt_indexB : MtM X "list.index" rIndexB := by
  intro pins s σ H x vs v us Q I rx rv h
  obtain ⟨l, bs, b, j, rfl, rfl, hH, hj, hno, q⟩ := h
  cases (show v = Value.ref l from rx)
  obtain ⟨u, rfl, ru⟩ := rv.one
  cases (show u = Value.bool b from ru)
  obtain ⟨z, its, n, r, hl, e⟩ := I.lstM hH
  obtain rfl := vals_bl r
  obtain ⟨hlt, hb⟩ := List.getElem?_eq_some_iff.mp hj
  have zz : (bs.map V.bl).length ≤ sizeLine := by simpa using z
  rw [List.length_map] at zz
  have hsm : (j : Int) < 2 ^ 63 - 1 := by
    have : sizeLine < 2 ^ 62 := by decide
    omega
  refine call_meets F.slot_list_index ⟨_, e, rfl⟩ F.entry_list_index (F.args_list_index_2 _ _) (SeqAt.list_indexAt l _ n none #[] (.bool b) (isB b) j (by simpa using hlt) hsm (by simp [isB, hb]) (fun m hm hmj => ?_)) ⟨e, fun y hy => ?_, ?_⟩
  · have hm' : m < bs.length := by simpa using hm
    have := hno m hmj
    rw [List.getElem?_eq_getElem hm'] at this
    have hne : bs[m] ≠ b := fun z => this (by rw [z])
    simp [isB, hne]
  · have hy' : y ∈ bs.map Value.bool := by simpa using hy
    obtain ⟨a, _, rfl⟩ := List.mem_map.mp hy'
    exact SeqAt.EqAt.bool_bool a b
  · exact ⟨.int _, H, I.tok _, ⟨_, rfl⟩, q⟩
end
/-! ### the answers about classes, out of plain ones -/
theorem kit_no {K : PySem.W.Frag} {C D : Addr} {cd : ClassData} (h0 : (Value.ref C == Value.ref D) = false) (h1 : PySem.W.clsIn K D = some cd) (h2 : PySem.W.typeIn K (.ref D) = some (.type "type")) (h3 : PySem.W.subIn K (.ref C) (.ref D) = some false) : PySem.W.kitOne K (.ref C) (.ref D) = some false := by
  unfold PySem.W.kitOne PySem.W.kitCls
  rw [if_neg (by rw [h0]; exact Bool.false_ne_true)]
  dsimp only
  rw [h1, h2]
  exact (if_pos rfl).trans h3
theorem kit_yes {K : PySem.W.Frag} {C : Addr} : PySem.W.kitOne K (.ref C) (.ref C) = some true := by
  unfold PySem.W.kitOne
  rw [if_pos (by simp)]
theorem kit_val {K : PySem.W.Frag} {C : Addr} (h3 : PySem.W.subIn K (.ref C) (.type "ValueError") = some true) : PySem.W.kitOne K (.ref C) (.type "ValueError") = some true := by
  unfold PySem.W.kitOne PySem.W.kitCls
  rw [if_neg (by simp)]
  exact (if_pos (by decide +kernel)).trans h3
theorem exm_of {K : PySem.W.Frag} {C D : Addr} {cd : ClassData} (h0 : PySem.W.subIn K (.ref D) (.type "BaseException") = some true) (h1 : PySem.W.clsIn K D = some cd) (h2 : PySem.W.typeIn K (.ref D) = some (.type "type")) (h3 : PySem.W.subIn K (.ref C) (.ref D) = some true) : PySem.W.exmOne K (.ref C) (.ref D) = some true := by
  unfold PySem.W.exmOne PySem.W.kitCls
  rw [h0, if_pos (by rfl)]
  dsimp only
  rw [h1, h2]
  exact (if_pos rfl).trans h3
/-! ### a call within an except suite -/
structure RoomH (k : Nat) (A : Around) : Prop where
  dp : A.depth + 3 * k + 5 < recursionLimit
  un : A.units + 16 * k + 200 < cLine
theorem Room.mark {k : Nat} {A : Around} (r : Room k A) (v : Option Value) : RoomH k (A.mark v) := ⟨r.dp, r.un⟩
theorem RoomH.mono {j k : Nat} {A : Around} (r : RoomH k A) (h : j ≤ k) : RoomH j A := ⟨by have := r.dp; omega, by have := r.un; omega⟩
theorem RoomH.deeper {k : Nat} {A : Around} (r : RoomH (k + 1) A) (env : Env) : RoomH k (A.deeper env) := ⟨by have := r.dp; show A.depth + 1 + 3 * k + 5 < _; omega, by have := r.un; show A.units + 3 + 16 * k + 200 < _; omega⟩
theorem RoomH.units {k : Nat} {A : Around} (r : RoomH k A) : A.units + 64 < cLine := by have := r.un; omega
theorem RoomH.units0 {k : Nat} {A : Around} (r : RoomH k A) : A.units < cLine := by have := r.un; omega
structure FnOkH (P : Program) (w : World) (K : PySem.W.Frag) (mg : Str → Option Value) (base : Heap) (k : Nat) (f : Addr) (fd : FuncData) (ps : List Str) (sp : Sp) : Prop where
  len : ∀ vs H Q E, sp vs H Q E → vs.length = ps.length
  run : ∀ (A : Around) (outer : List Env) (s : Shared) (H : Hp) (args : Args) (us : List Value) (vs : List V) (Q : VK), RoomH k A → Env0 P w K mg base A outer s H → BindsTo s fd args (ps.zip us) → Vals vs us → sp vs H Q E0 →
    codeAny (model P w) A (.call (.ref f) args) (CR CX0 outer P w H s Q E0) s
noncomputable abbrev cxH (P : Program) (w : World) (K : PySem.W.Frag) (mg : Str → Option Value) (base : Heap) (N : List Str) (qual : Str) (scope : Scope) (f : Addr) (cd : Value) (A : Around) (outer : List Env) (s : Shared) (H : Hp) : Cx :=
  { cxOf CX0 P w K mg base N qual scope f cd A outer s H E0 with calm := false, xe := fun _ _ => False }
section
variable {P : Program} {w : World} {K : PySem.W.Frag} {mg : Str → Option Value} {base : Heap}
theorem Fun.okH {x qual : Str} {st : Stmt} {f : Addr} {fd : FuncData} {N ps : List Str} {k : Nat} {sp : Sp} (F : Fun K x qual st f fd) (S : FnScope N ps (defScope st)) (len : ∀ vs H Q E, sp vs H Q E → vs.length = ps.length)
    (hbody : ∀ (cdv : Value) (A : Around) (outer : List Env) (s : Shared) (H : Hp) (vs : List V) (Q : VK), RoomH k (A.deeper (envOfC qual (defScope st) s.heap.objs.size f cdv)) → sp vs H Q E0 →
      ∃ t, PSs (cxH P w K mg base N qual (defScope st) f cdv A outer s H) (defBody st) t ∧ t { nx := fun _ H' => Q .non H', rt := Q } (start N vs) H) : FnOkH P w K mg base (k + 1) f fd ps sp := by
  obtain ⟨oc, od, kV, doc, pm, an, cdv, ct, osl, rfl, lk, hcd⟩ := F.ex
  refine ⟨len, fun A outer s H args us vs Q hr e0 hb r hsp => ?_⟩
  have hl := len _ _ _ _ hsp
  have KX : K.In s.heap := e0.mod.kin.keeps fun b o e => (e0.bs b o e).1
  have lim : s.heap.NoLimit := e0.mod.nolimit.keeps fun b o e => (e0.bs b o e).1
  have hkind : ∀ y ∈ ps.zip us, (defScope st).names.lookup y.1 = some .local ∨ ((defScope st).names.lookup y.1 = some .cell ∧ ((cellsFrom (s.heap.objs.size + 1) (defScope st).names []).lookup y.1).isSome = true) := fun ⟨n, v⟩ hy => by
    rcases S.par n (List.of_mem_zip hy).1 with q | q
    · exact .inl q
    · exact .inr ⟨q, PySem.W.cellsFrom_some _ _ _ (.inl q)⟩
  refine codeAny_call_function (by have := hr.dp; omega) (KX _ _ lk) rfl S.co S.gen rfl (PySem.W.codeRec_of KX hcd) (hb _ _ _ _ ?_)
  refine wpAny_newFunctionEnv_cells S.kind hkind fun env he s1 x => ?_
  subst he
  refine ⟨lim.keeps x.toInCall.keep, codeAny_func ?_⟩
  obtain ⟨t, ht, hq⟩ := hbody cdv A outer s H vs Q (hr.deeper _) hsp
  have e0' : Env0 P w K mg base { A with handled := none } outer s H := ⟨e0.frames, e0.mod, e0.bs, e0.bsz, e0.funs, e0.frf, e0.hok, e0.bare⟩
  have I0 : Inv (cxOf CX0 P w K mg base N qual (defScope st) f cdv { A with handled := none } outer s H E0) [] (start N vs) H s1 := inv_start S rfl e0' hl r x
  have I : Inv (cxH P w K mg base N qual (defScope st) f cdv A outer s H) [] (start N vs) H s1 :=
    ⟨⟨I0.ok.mod, I0.ok.kind, I0.ok.glob, I0.ok.blt, I0.ok.above, I0.ok.inj, I0.ok.has, I0.ok.cab, (fun z => absurd z Bool.false_ne_true), Around.frames_deeper e0.frames, I0.ok.stk, I0.ok.exf, I0.ok.bs, I0.ok.bsz, I0.ok.noex, I0.ok.exfs, I0.ok.funs, I0.ok.frf⟩, I0.os, I0.bare, I0.base, I0.loc, I0.cell, I0.free, I0.freeC, I0.pin, I0.hok, I0.len⟩
  refine wpAny_mono (ht [] s1 (start N vs) H _ I hq) (fun fl s' hs => ?_) fun e s' hs => False.elim hs
  have fin : ∀ {σ' : St} {H' : Hp} {v : V} {u : Value}, Inv (cxH P w K mg base N qual (defScope st) f cdv A outer s H) [] σ' H' s' → RelV v u → Q v H' → CE outer P w H s Q u s' :=
    fun {σ' H' v u} J rv q => ⟨v, H', J.os, J.bare, J.base, J.hok, rv, q⟩
  cases fl with
  | ret u =>
    obtain ⟨v, σ', H', J, rv, q⟩ := hs
    exact fin J rv q
  | next =>
    obtain ⟨σ', H', J, q⟩ := hs
    exact fin (v := V.non) (u := Value.none) J rfl q
  | brk =>
    obtain ⟨_, _, _, q⟩ := hs
    exact False.elim q
  | cont =>
    obtain ⟨_, _, _, q⟩ := hs
    exact False.elim q
end
section
variable {X : Cx} {k : Nat} {f : Addr} {fd : FuncData} {ps : List Str} {sp : Sp} {x : Str} {p pos : Pos} {e : Expr} {es : List Expr} {t : TA}
theorem pe_callH (F : FnOkH X.prog X.w X.K X.mg X.base k f fd ps sp) (hr : RoomH k X.A) (hg : Gl X x) (hm : X.mg x = some (.ref f)) (hk : PySem.W.keepIn X.K (.ref f) = true) (hb : Binds X.K fd ps [])
    (ha : PA X (e :: es) t) (hdb : (x == ("__debug__" : Str)) = false := by decide) (he : starEach (e :: es) X.env = (false, eval e X.env) :: starEach es X.env := by rfl) (hpl : (backTo pos (starEach es X.env)).any (·.1) = false := by rfl) :
    PE X (.Call (.Name x p) (e :: es) [] pos) (tCall sp [] E0 t) := by
  intro pins s σ H Q I h
  refine wpAny_Call_Name_kw (ld_glob I hg hm ?_ hdb)
  refine PySem.W.callWith_K (h₀ := X.base) I.ok.mod.kin hk (thn (ha pos pins s σ H _ I h) fun us s1 ⟨vs, H1, I1, r, q⟩ => ⟨I1.kIn, ?_⟩) he hpl
  have q' : sp vs H1 Q E0 := by simpa using q
  have hl : us.length = ps.length := by rw [← r.length]; exact F.len _ _ _ _ q'
  have hb' := hb s1 us I1.kIn (by simpa using hl)
  rw [List.append_nil] at hb'
  refine wpAny_call (codeAny_mono (F.run X.A X.stack s1 H1 ⟨us, []⟩ us vs Q hr I1.env0 hb' r q') fun r s' hq => ?_)
  cases r with
  | error e => exact hq.elim
  | ok fl =>
    cases fl with
    | ret u => exact I1.after hq
    | next => exact False.elim hq
    | brk => exact False.elim hq
    | cont => exact False.elim hq
end
section
variable {σ : St} {H : Hp} {Q : VK} {D : Ends} {K : PySem.W.Frag}
theorem rd_isXo {e C D : Addr} {b : Bool} (he : H e = some (excO e C)) (Z : ExcC K C) (hk : PySem.W.kitOne K (.ref C) (.ref D) = some b) (h : Q (.bl b) H) : rIsX K [.ref e, .ref D] H Q := ⟨e, C, b, he, Z, .inl ⟨D, rfl, hk⟩, h⟩
theorem rd_isXt {e C : Addr} {T : String} {b : Bool} (he : H e = some (excO e C)) (Z : ExcC K C) (hk : PySem.W.kitOne K (.ref C) (.type T) = some b) (h : Q (.bl b) H) : rIsX K [.ref e, .ty T] H Q := ⟨e, C, b, he, Z, .inr ⟨T, rfl, hk⟩, h⟩
theorem rd_countB {l : Addr} {bs : List Bool} {b : Bool} (hl : H l = some (.lst (bs.map V.bl))) (h : Q (.int (bs.countP (· == b) : Nat)) H) : rCountB (.ref l) [.bl b] H Q := ⟨l, bs, b, rfl, rfl, hl, h⟩
theorem rd_indexB {l : Addr} {bs : List Bool} {b : Bool} {j : Nat} (hl : H l = some (.lst (bs.map V.bl))) (hj : bs[j]? = some b) (hno : ∀ m, m < j → bs[m]? ≠ some b) (h : Q (.int (j : Nat)) H) : rIndexB (.ref l) [.bl b] H Q := ⟨l, bs, b, j, rfl, rfl, hl, hj, hno, h⟩
theorem rd_raise {E : XK} {C : Addr} {t : TA} (h : t σ H fun vs H1 => vs.length ≤ sizeLine ∧ E (.ref C) none H1) : tRaise E C t D σ H := h
end
end L2

set_option Elab.async false
set_option linter.all false
set_option maxRecDepth 100000
set_option maxHeartbeats 1000000
namespace L2
open PySem PySem.Spec PyProof.Rows
/-! ### written things: tuples and lists of constants, however deep -/
/-- v is d in each heap that keeps what is new in H' -/
noncomputable def Fresh (H H' : Hp) (v : V) (d : PyData) : Prop := ∀ H2 : Hp, (∀ a u, H a = none → H' a = some u → H2 a = some u) → Is H2 v d
inductive FreshAll (H H' : Hp) : List V → List PyData → Prop
  | nil : FreshAll H H' [] []
  | cons {v : V} {d : PyData} {vs : List V} {ds : List PyData} : Fresh H H' v d → FreshAll H H' vs ds → FreshAll H H' (v :: vs) (d :: ds)
theorem Fresh.mono {H H1 H2 H3 : Hp} {v : V} {d : PyData} (s1 : Same H H1) (s2 : Same H2 H3) (h : Fresh H1 H2 v d) : Fresh H H3 v d := fun K k => h K fun a u n e => k a u (by
  cases q : H a with
  | none => rfl
  | some w => rw [s1 _ _ q] at n; cases n) (s2 _ _ e)
theorem FreshAll.mono {H H1 H2 H3 : Hp} (s1 : Same H H1) (s2 : Same H2 H3) : ∀ {vs : List V} {ds : List PyData}, FreshAll H1 H2 vs ds → FreshAll H H3 vs ds
  | _, _, .nil => .nil
  | _, _, .cons h t => .cons (h.mono s1 s2) (t.mono s1 s2)
theorem FreshAll.length {H H' : Hp} : ∀ {vs : List V} {ds : List PyData}, FreshAll H H' vs ds → vs.length = ds.length
  | _, _, .nil => rfl
  | _, _, .cons _ t => by rw [List.length_cons, List.length_cons, t.length]
theorem FreshAll.is {H H' H2 : Hp} (k : ∀ a u, H a = none → H' a = some u → H2 a = some u) : ∀ {vs : List V} {ds : List PyData}, FreshAll H H' vs ds → IsAll H2 vs ds
  | _, _, .nil => .nil
  | _, _, .cons h t => .cons (h H2 k) (t.is k)
theorem FreshAll.mem {H H' : Hp} : ∀ {vs : List V} {ds : List PyData} {v : V}, FreshAll H H' vs ds → v ∈ vs → ∃ d ∈ ds, Fresh H H' v d
  | _, _, _, .nil, h => nomatch h
  | _, _, _, .cons h t, hv => by
    rcases List.mem_cons.mp hv with rfl | hv
    · exact ⟨_, List.mem_cons_self, h⟩
    · obtain ⟨d, hd, f⟩ := t.mem hv
      exact ⟨d, List.mem_cons_of_mem _ hd, f⟩
noncomputable def tLit (d : PyData) : TE := fun _ H Q => ∀ v H', Same H H' → Fresh H H' v d → Q v H'
noncomputable def tLits (ds : List PyData) : TA := fun _ H P => ∀ vs H', Same H H' → FreshAll H H' vs ds → P vs H'
section
variable {X : Cx} {e : Expr} {es : List Expr} {pos : Pos} {d : PyData} {ds : List PyData}
theorem PE.imp {t t' : TE} (h : PE X e t) (k : ∀ σ H Q, t' σ H Q → t σ H Q) : PE X e t' := fun pins s σ H Q I q => h pins s σ H Q I (k σ H Q q)
theorem PA.imp {t t' : TA} (h : PA X es t) (k : ∀ σ H Q, t' σ H Q → t σ H Q) : PA X es t' := fun pos pins s σ H Q I q => h pos pins s σ H Q I (k σ H Q q)
theorem pl_int {i : Int} {j} : PE X (.Constant (.int i) j pos) (tLit (.int i)) := pe_int.imp fun _ H Q q => q _ H (Same.refl H) fun _ _ => .int i
theorem pl_bl {b : Bool} {j} : PE X (.Constant (.bool b) j pos) (tLit (.bool b)) := pe_bl.imp fun _ H Q q => q _ H (Same.refl H) fun _ _ => .bl b
theorem pl_non {j} : PE X (.Constant .none j pos) (tLit .none) := pe_non.imp fun _ H Q q => q _ H (Same.refl H) fun _ _ => .non
theorem pl_str {x : Str} {j} : PE X (.Constant (.str x) j pos) (tLit (.str x)) := pe_str.imp fun _ H Q q => q _ H (Same.refl H) fun _ _ => .str x
theorem pl_neg {i : Int} {j p2} : PE X (.UnaryOp .USub (.Constant (.int i) j p2) pos) (tLit (.int (-i))) := (pe_un un_neg pe_int).imp fun _ H Q q => ⟨i, rfl, q _ H (Same.refl H) fun _ _ => .int (-i)⟩
theorem pls_nil : PA X [] (tLits []) := pa_nil.imp fun _ H P q => q [] H (Same.refl H) .nil
theorem pls_cons (ha : PE X e (tLit d)) (hr : PA X es (tLits ds)) (hs : starEach (e :: es) X.env = (false, eval e X.env) :: starEach es X.env := by rfl) : PA X (e :: es) (tLits (d :: ds)) :=
  (pa_cons ha hr hs).imp fun _ H P q v H1 s1 f1 vs H2 s2 f2 => q (v :: vs) H2 (s1.trans s2) (.cons (f1.mono (Same.refl _) s2) (f2.mono s1 (Same.refl _)))
theorem pl_tup {x1} (h : PA X es (tLits ds)) (hz : ds.length ≤ sizeLine := by decide) : PE X (.Tuple es x1 pos) (tLit (.tuple ds)) :=
  (pe_tup h).imp fun _ H Q q vs H1 s1 f1 => ⟨by rw [f1.length]; exact hz, fun p hp => q _ _ (s1.trans (Same.upd hp)) fun H2 k => .tup (k p _ (by
    cases e : H p with
    | none => rfl
    | some u => rw [s1 _ _ e] at hp; cases hp) upd_same) (f1.is fun a u n e => k a u n (by rw [upd_ne (ne_of_none e hp)]; exact e))⟩
theorem pl_lst (h : PA X es (tLits ds)) (hz : ds.length ≤ sizeLine := by decide) : PE X (.List es pos) (tLit (.list ds)) :=
  (pe_lst h).imp fun _ H Q q vs H1 s1 f1 => ⟨by rw [f1.length]; exact hz, fun p hp => q _ _ (s1.trans (Same.upd hp)) fun H2 k => .lst (Rd.of (k p _ (by
    cases e : H p with
    | none => rfl
    | some u => rw [s1 _ _ e] at hp; cases hp) upd_same)) (f1.is fun a u n e => k a u n (by rw [upd_ne (ne_of_none e hp)]; exact e))⟩
end
/-! ### one of several defs, drawn out of a list, is called -/
inductive CallL (X : Cx) (E : XK) : List (Addr × Sp) → Prop
  | nil : CallL X E []
  | cons {CX : CXT} {k : Nat} {f : Addr} {fd : FuncData} {ps : List Str} {sp : Sp} {l : List (Addr × Sp)} (F : FnOk X.prog X.w X.K X.mg X.base CX k f fd ps sp) (hr : Room k X.A) (hk : PySem.W.keepIn X.K (.ref f) = true) (hb : Binds X.K fd ps []) (hx : Passes CX X E) (r : CallL X E l) : CallL X E ((f, sp) :: l)
noncomputable def tCallS (l : List (Addr × Sp)) (E : XK) (tf : TE) (t : TA) : TE := fun σ H Q => tf σ H fun v H1 => ∃ (i : Nat) (f : Addr) (sp : Sp), l[i]? = some (f, sp) ∧ v = .ref f ∧ t σ H1 fun vs H2 => sp vs H2 Q E
theorem CallL.get {X : Cx} {E : XK} : ∀ {l : List (Addr × Sp)} {i : Nat} {f : Addr} {sp : Sp}, CallL X E l → l[i]? = some (f, sp) → ∃ (CX : CXT) (k : Nat) (fd : FuncData) (ps : List Str), FnOk X.prog X.w X.K X.mg X.base CX k f fd ps sp ∧ Room k X.A ∧ PySem.W.keepIn X.K (.ref f) = true ∧ Binds X.K fd ps [] ∧ Passes CX X E
  | _, _, _, _, .nil, e => by simp at e
  | _, 0, _, _, .cons F hr hk hb hx r, e => by simp at e; obtain ⟨rfl, rfl⟩ := e; exact ⟨_, _, _, _, F, hr, hk, hb, hx⟩
  | _, i + 1, _, _, .cons F hr hk hb hx r, e => r.get (i := i) (by simpa using e)
theorem arm_callS (a b : Expr) (p : Pos) (args : List Expr) (keywords : List Keyword) (pos : Pos) (env : Env) : eval (.Call (.Subscript a b p) args keywords pos) env = (do
    callWith pos (← eval (.Subscript a b p) env) [] (backTo pos (starEach args env)) (backToKw pos (keywordEach keywords env))) := rfl
theorem pe_callS {X : Cx} {E : XK} {l : List (Addr × Sp)} {a b e : Expr} {es : List Expr} {p pos : Pos} {tf : TE} {t : TA} (L : CallL X E l) (hf : PE X (.Subscript a b p) tf) (ha : PA X (e :: es) t)
    (he : starEach (e :: es) X.env = (false, eval e X.env) :: starEach es X.env := by rfl) (hpl : (backTo pos (starEach es X.env)).any (·.1) = false := by rfl) :
    PE X (.Call (.Subscript a b p) (e :: es) [] pos) (tCallS l E tf t) := by
  intro pins s σ H Q I h
  rw [arm_callS]
  refine wpAny_bind (thn (hf pins s σ H _ I h) fun u s1 ⟨v, H1, I1, rv, i, f, sp, hl, ev, q⟩ => ?_)
  subst ev
  cases (show u = Value.ref f from rv)
  obtain ⟨CX, k, fd, ps, F, hr, hk, hb, hx⟩ := L.get hl
  refine PySem.W.callWith_K (h₀ := X.base) I.ok.mod.kin hk (thn (ha pos pins s1 σ H1 _ I1 q) fun us s2 ⟨vs, H2, I2, r, q2⟩ => ⟨I2.kIn, ?_⟩) he hpl
  exact run_fn (dvs := []) F hr hb .nil hx I2 r (by rw [List.append_nil]; exact q2)
theorem rd_callS {l : List (Addr × Sp)} {E : XK} {tf : TE} {t : TA} {σ : St} {H : Hp} {Q : VK} (h : tf σ H fun v H1 => ∃ (i : Nat) (f : Addr) (sp : Sp), l[i]? = some (f, sp) ∧ v = .ref f ∧ t σ H1 fun vs H2 => sp vs H2 Q E) : tCallS l E tf t σ H Q := h
end L2

set_option Elab.async false
set_option linter.all false
set_option maxRecDepth 100000
set_option maxHeartbeats 1000000
namespace L2
open PySem PySem.Spec PyProof.Rows
/-! ### sorted of ints -/
section
variable {prog : Program} {w : World} {A : Around} {E : Value → Shared → Prop} {s : Shared}
end
section
variable {X : Cx}
/-! ### range(n) as a value; list and tuple of it -/
noncomputable def upTo (n : Nat) : List Int := (List.range n).map fun (i : Nat) => (i : Int)
theorem upTo_len (n : Nat) : (upTo n).length = n := by unfold upTo; simp
end
end L2

set_option Elab.async false
set_option linter.all false
set_option maxRecDepth 100000
set_option maxHeartbeats 2000000
namespace L2
open PySem PySem.Spec PyProof.Rows
open AutoSeq1 (wpAny_loadPart')
section
variable {prog : Program} {w : World} {A : Around} {E : Value → Shared → Prop} {s : Shared}
end
section
variable {X : Cx}
/-! ### a tuple times an int -/
theorem noFill_tuple_mul : fillsNumberSlot (.type "tuple") "mul" = pure false :=
  PySem.fillsNumberSlot_seq (id := "tuple.__mul__") (r := some (.builtin "tuple.__rmul__")) F.slot_tuple_mul.lookup (by decide +kernel) F.slot_tuple_rmul.lookup (by decide +kernel)
theorem repeat_tuple : seqRepeat? (.type "tuple") = pure (some (.builtin "tuple.__mul__")) := by
  unfold seqRepeat?
  rw [PySem.seqSlot_of (T := "tuple") (name := "__mul__") (id := "tuple.__mul__") F.slot_tuple_mul.lookup (by decide +kernel), PySem.seqSlot_of (T := "tuple") (name := "__rmul__") (id := "tuple.__rmul__") F.slot_tuple_rmul.lookup (by decide +kernel)]
  rfl
theorem int_rmul_tuple (a : Int) (t : Tok) (l : Addr) (items : Array Value) (n : Nat) (dd : Option Addr) (sl : Array (Option Value)) :
    Meets (Builtin.«int.__rmul__» ⟨[.int a t, .ref l], []⟩) (fun _ R s => s.heap.get? l = some { cls := .type "tuple", dict := dd, data := .seq items n, slots := sl } ∧ R (.ok (.ret Value.notImplemented)) s) :=
  .of_wp fun prog w A R s h => by obtain ⟨hp, g, d, tk, os⟩ := s; obtain ⟨hl, h⟩ := h; wp_walk; exact ⟨_, rfl, h⟩
theorem tuple_mul_meets (l : Addr) (items : Array Value) (n : Nat) (dd : Option Addr) (sl : Array (Option Value)) (k : Int) (t : Tok) (h0 : items.isEmpty = false) (h2 : 2 ≤ k) (hk : k ≤ 1000) (hz : items.size * k.toNat ≤ sizeLine) :
    Meets (Builtin.«tuple.__mul__» ⟨[.ref l, .int k t], []⟩) (fun _ R s => s.heap.get? l = some { cls := .type "tuple", dict := dd, data := .seq items n, slots := sl } ∧
      R (.ok (.ret (.ref s.heap.objs.size))) { s with heap := s.heap.push { cls := .type "tuple", data := .seq ((List.replicate k.toNat items).foldl (· ++ ·) #[]) } }) :=
  .of_wp fun prog w A R s h => by
    obtain ⟨hp, g, d, tk, os⟩ := s; obtain ⟨hl, h⟩ := h
    have hT : Shared.TypeIs ⟨hp, g, d, tk, os⟩ (.ref l) "tuple" := ⟨_, hl, rfl⟩
    have f1 := AutoSeq1.idx_int
    wp_walk using wpAny_loadPart' hl, wpAny_typeOf hT
    rw [if_neg (by simp; omega)]
    wp_walk using wpAny_loadPart' hl, wpAny_typeOf hT
    have hz' : (items.size : Int) * k ≤ (sizeLine : Nat) := by
      have e : (items.size : Int) * k = ((items.size * k.toNat : Nat) : Int) := by
        rw [Int.natCast_mul, Int.toNat_of_nonneg (by omega)]
      rw [e]
      exact Int.ofNat_le.mpr hz
    have hs : (sizeLine : Nat) < 2 ^ 40 := by decide
    rw [if_neg (by rw [h0]; simp; omega)]
    try dsimp only
    rw [if_neg (by rw [h0]; simp; omega)]
    try dsimp only
    rw [if_neg (by omega)]
    try dsimp only
    have hm : Builtin.Tuple.tupleTooMany ((items.size : Int) * k) = false := by
      unfold Builtin.Tuple.tupleTooMany
      simp
      omega
    rw [if_neg (by rw [hm]; exact Bool.false_ne_true)]
    try dsimp only
    unfold Builtin.Tuple.tupleExact
    have hl2 : ∀ (m : Nat) (acc : Array Value), (List.foldl (fun x1 x2 => x1 ++ x2) acc (List.replicate m items)).size = acc.size + items.size * m := fun m => by
      induction m with
      | zero => intro acc; simp
      | succ m ih => intro acc; rw [List.replicate_succ, List.foldl_cons, ih, Array.size_append, Nat.mul_succ]; omega
    refine wpAny_bind (wpAny_newObj_type ?_ (by
      show (List.foldl (fun x1 x2 => x1 ++ x2) #[] (List.replicate k.toNat items)).size ≤ sizeLine
      rw [hl2]
      simpa using hz))
    exact wpAny_pure ⟨_, rfl, h⟩
noncomputable def rRepT : R2 := fun x y H Q => ∃ (l : Addr) (k : Nat) (xs : List V), x = .ref l ∧ y = .int (k : Nat) ∧ H l = some (.tup xs) ∧ xs ≠ [] ∧ 2 ≤ k ∧ k ≤ 1000 ∧ xs.length * k ≤ 1000 ∧ ∀ p, H p = none → Q (.ref p) (upd H p (.tup (List.replicate k xs).flatten))
theorem op_repT : OpR X (binaryOp .Mult) rRepT := by
  intro pins s σ H x y v u Q I rx ry h
  obtain ⟨l, k, xs, rfl, rfl, hH, hne, k2, k3, hz, q⟩ := h
  cases (show v = Value.ref l from rx)
  obtain ⟨t, rfl⟩ := ry
  obtain ⟨its, r, ⟨⟨cls, dd, data, sl⟩, ho, hc, n, hd⟩, _⟩ := I.tuple (SqT.of hH)
  simp only at hc hd
  subst hc hd
  have hl : its.length = xs.length := r.length.symm
  have he : its.toArray.isEmpty = false := by
    cases its with
    | nil => exact absurd (r.nil_iff.mp rfl) hne
    | cons a b => simp
  have hzz : its.toArray.size * ((k : Int)).toNat ≤ sizeLine := by
    rw [List.size_toArray, Int.toNat_natCast, hl]
    exact Nat.le_of_lt (small1000 hz)
  have hnew : List.foldl (fun x1 x2 => x1 ++ x2) #[] (List.replicate ((k : Int)).toNat its.toArray) = (List.replicate k its).flatten.toArray := by
    have f0 := foldl_rep its k []
    rw [List.nil_append] at f0
    rw [Int.toNat_natCast]
    exact f0
  refine wpAny_binaryOp_repeat_ref (T := "tuple") (U := "int") (by decide) ⟨_, ho, rfl⟩ (fun s' => typeIs_int s' k t) noFill_tuple_mul F.fills_int_mul F.slot_int_rmul repeat_tuple F.slot_int_index.lookup
    (call_meets F.slot_int_rmul (typeIs_int s k t) F.entry_int_rmul (F.args_int_rmul_2 _ _) (int_rmul_tuple k t l its.toArray n dd sl)
      ⟨ho, rfl, ⟨_, ho, rfl⟩, call_meets F.slot_tuple_mul ⟨_, ho, rfl⟩ F.entry_tuple_mul (F.args_tuple_mul_2 _ _) (tuple_mul_meets l its.toArray n dd sl k t he (by omega) (by omega) hzz) ⟨ho, ?_⟩⟩)
  rw [hnew]
  refine ⟨.ref s.heap.objs.size, _, I.laid (t' := s.toks) (o := .tup (List.replicate k xs).flatten) (fun b o e => Heap.get?_push_of_some _ e) (Nat.le_refl _) ⟨?_, _, r.rep k, IsTupN.new _ _⟩, rfl, q _ (I.hok.fresh (Nat.le_refl _))⟩
  rw [len_rep, Nat.mul_comm]
  exact Nat.le_of_lt (small1000 hz)
end
section
variable {σ : St} {H : Hp} {Q : VK} {K : PySem.W.Frag}
end
end L2

set_option Elab.async false
set_option linter.all false
set_option maxRecDepth 100000
set_option maxHeartbeats 1000000
namespace L2
open PySem PySem.Spec PyProof.Rows
section
variable {K : PySem.W.Frag} {σ : St} {H : Hp} {Q : VK}
theorem rd_sl {r : V → Option Int → Option Int → Hp → VK → Prop} {te : TE} {tl th : TO} (h : te σ H fun x H1 => tl σ H1 fun l H2 => th σ H2 fun u H3 => r x l u H3 Q) : tSl r te tl th σ H Q := h
theorem rd_noP {P : Option Int → Hp → Prop} (h : P none H) : tNoPart σ H P := h
theorem rd_part {te : TE} {P : Option Int → Hp → Prop} (h : te σ H fun x H1 => ∃ i, x = .int i ∧ P (some i) H1) : tPart te σ H P := h
theorem rd_slT {a : Addr} {xs : List V} {lo hi : Option Int} (e : H a = some (.tup xs)) (hn : ¬ (HT.sIx xs.length 0 lo = 0 ∧ HT.sIx xs.length xs.length hi = xs.length)) (h : ∀ p, H p = none → Q (.ref p) (upd H p (.tup (cutV xs lo hi)))) : rSlT K (.ref a) lo hi H Q := ⟨a, xs, rfl, SqT.of e, hn, h⟩
/-- t[1:] -/
theorem rd_tail {a : Addr} {v : V} {xs : List V} (e : H a = some (.tup (v :: xs))) (h : ∀ p, H p = none → Q (.ref p) (upd H p (.tup xs))) : rSlT K (.ref a) (some 1) none H Q := by
  have e1 : HT.sIx (v :: xs).length 0 (some 1) = 1 := by
    have := HT.sIx_nat (v :: xs).length 0 1
    rw [show ((1 : Nat) : Int) = 1 from rfl] at this
    rw [this, List.length_cons]
    omega
  refine rd_slT e (fun z => by rw [e1] at z; exact absurd z.1 (by decide)) fun p hp => ?_
  have : cutV (v :: xs) (some 1) none = xs := by
    unfold cutV
    rw [e1, HT.sIx_none, List.length_cons]
    simp
  rw [this]
  exact h p hp
/-- t[:-1] -/
theorem rd_init {a : Addr} {v : V} {xs : List V} (e : H a = some (.tup (xs ++ [v]))) (h : ∀ p, H p = none → Q (.ref p) (upd H p (.tup xs))) : rSlT K (.ref a) none (some (-1)) H Q := by
  have e1 : HT.sIx (xs ++ [v]).length (xs ++ [v]).length (some (-1)) = xs.length := by
    show (if (-1 : Int) < 0 then ((-1 : Int) + ((xs ++ [v]).length : Int)).toNat else min (-1 : Int).toNat (xs ++ [v]).length) = _
    rw [if_pos (by decide), List.length_append, List.length_singleton]
    omega
  refine rd_slT e (fun z => by rw [e1, List.length_append, List.length_singleton] at z; omega) fun p hp => ?_
  have : cutV (xs ++ [v]) none (some (-1)) = xs := by
    unfold cutV
    rw [e1, HT.sIx_none]
    simp
  rw [this]
  exact h p hp
theorem FreshAll.append {H H' : Hp} : ∀ {vs : List V} {ds : List PyData} {ws : List V} {es : List PyData}, FreshAll H H' vs ds → FreshAll H H' ws es → FreshAll H H' (vs ++ ws) (ds ++ es)
  | _, _, _, _, .nil, h => h
  | _, _, _, _, .cons a t, h => .cons a (t.append h)
end
/-! written things by one word: Lit (nested terms of PE take long to elaborate) -/
inductive Lit : List Expr → List PyData → Prop
  | nil : Lit [] []
  | int {i : Int} {j p es ds} : Lit es ds → Lit (.Constant (.int i) j p :: es) (.int i :: ds)
  | bl {b : Bool} {j p es ds} : Lit es ds → Lit (.Constant (.bool b) j p :: es) (.bool b :: ds)
  | non {j p es ds} : Lit es ds → Lit (.Constant .none j p :: es) (.none :: ds)
  | str {x : Str} {j p es ds} : Lit es ds → Lit (.Constant (.str x) j p :: es) (.str x :: ds)
  | neg {i : Int} {j p p2 es ds} : Lit es ds → Lit (.UnaryOp .USub (.Constant (.int i) j p2) p :: es) (.int (-i) :: ds)
  | tup {es' ds' x p es ds} : Lit es' ds' → ds'.length ≤ 100 → Lit es ds → Lit (.Tuple es' x p :: es) (.tuple ds' :: ds)
  | lst {es' ds' p es ds} : Lit es' ds' → ds'.length ≤ 100 → Lit es ds → Lit (.List es' p :: es) (.list ds' :: ds)
theorem Lit.pa {X : Cx} {es : List Expr} {ds : List PyData} (h : Lit es ds) : PA X es (tLits ds) := by
  have hz : 100 ≤ sizeLine := by decide
  induction h with
  | nil => exact pls_nil
  | int _ ih => exact pls_cons pl_int ih
  | bl _ ih => exact pls_cons pl_bl ih
  | non _ ih => exact pls_cons pl_non ih
  | str _ ih => exact pls_cons pl_str ih
  | neg _ ih => exact pls_cons pl_neg ih
  | tup _ h _ ih1 ih2 => exact pls_cons (pl_tup ih1 (Nat.le_trans h hz)) ih2
  | lst _ h _ ih1 ih2 => exact pls_cons (pl_lst ih1 (Nat.le_trans h hz)) ih2
end L2

set_option Elab.async false
set_option linter.all false
set_option maxRecDepth 100000
set_option maxHeartbeats 1000000
namespace L2
open PySem PySem.Spec PyProof.Rows
/-! ### a list taken apart: a, b = [..] -/
section
variable {P : Program} {w : World} {A : Around} {E : Value → Shared → Prop}
theorem draw_lst {r l : Addr} {us : Array Value} (ne : l ≠ r) : ∀ (m j : Nat) (s : Shared) (Q : List Value → Shared → Prop), s.heap.IsListIter r l j → s.heap.IsList l us → j + m ≤ us.size →
    (∀ g : Heap, g.IsListIter r l (j + m) → Heap.SameBut r s.heap g → Q ((us.toList.drop j).take m) { s with heap := g }) → wpAny (model P w) A (draw (.ref r) m) Q E s
  | 0, j, s, Q, st, _, _, q => by
    change wpAny _ _ (pure []) Q E s
    exact wpAny_pure (by simpa using q s.heap st (Heap.SameBut.refl ..))
  | m + 1, j, s, Q, st, hl, le, q => by
    have lt : j < us.size := by omega
    change wpAny _ _ (pyNext (.ref r) >>= _) Q E s
    refine wpAny_bind (wpAny_pyNext_list_item st hl (x := us[j]) (by simp [lt]) fun g1 st1 sb1 => ?_)
    refine wpAny_bind (wpAny_holding (draw_lst ne m (j + 1) _ _ st1 (hl.extBut sb1.extBut ne) (by omega) fun g2 st2 sb2 => wpAny_pure ?_))
    have dr : us.toList.drop j = us[j] :: us.toList.drop (j + 1) := by simp [List.drop_eq_getElem_cons, lt]
    have q' := q g2 (by rw [show j + (m + 1) = j + 1 + m by omega]; exact st2) (sb1.trans sb2)
    rw [dr, List.take_succ_cons] at q'
    exact q'
theorem items_lst {l : Addr} {us : Array Value} {s : Shared} {Q : List Value → Shared → Prop} (hh : A.handled = none) (hl : s.heap.IsList l us)
    (q : ∀ g : Heap, Heap.ExtBut s.heap.objs.size s.heap g → Q us.toList { s with heap := g }) : wpAny (model P w) A (unpackItems (.ref l) us.size none) Q E s := by
  have ne : l ≠ s.heap.objs.size := by obtain ⟨o, eo, _⟩ := hl; exact Nat.ne_of_lt (Heap.lt_size eo)
  unfold unpackItems
  refine wpAny_bind ?_
  unfold notIterableAtAll
  refine wpAny_bind (wpAny_specialOf hl.typeIs slot_list_iter.lookup ?_)
  refine wpAny_pure ?_
  simp only [Bool.false_eq_true, if_false]
  refine wpAny_bind (wpAny_holding (wpAny_pyIter_list hl ?_))
  refine wpAny_bind (wpAny_holding (draw_lst ne us.size 0 _ _ ⟨_, Heap.get?_push_size _ rfl, rfl, rfl⟩ (hl.push _) (by omega) fun g1 st1 sb1 => ?_))
  have ha : List.take us.size (List.drop 0 us.toList) = us.toList := by rw [List.drop_zero]; exact List.take_of_length_le (by simp)
  rw [ha, if_neg (by simp)]
  have hl1 : g1.IsList l us := (hl.push _).extBut sb1.extBut ne
  refine wpAny_bind (wpAny_holding (wpAny_pyNext_list_end hh st1 hl1 (by simp) fun g2 eb2 => ?_))
  simp only [Option.isSome_none, Bool.false_eq_true, if_false]
  exact wpAny_pure (q g2 fun b o hb e => eb2 b o hb (sb1.extBut b o hb (Heap.get?_push_of_some _ e)))
end
noncomputable def gLst (K : PySem.W.Frag) (n : Nat) (t : TGs) : TG := fun v σ H Q => ∃ a xs, v = .ref a ∧ SqL K H a xs ∧ xs.length = n ∧ t xs σ H Q
section
variable {X : Cx}
theorem pg_lst {pos : Pos} {es : List Expr} {k : Nat} {t : TGs} {n : Nat} (hc : X.calm = true) (h : PGs X es t)
    (hn : (assignEach es X.env).length = n := by rfl) (hst : (assignEach es X.env).findIdx? (·.1) = none := by rfl) : PG X (.Tuple es k pos) (gLst X.K n t) := by
  intro pins s σ H v u Q I r hw
  obtain ⟨a, xs, e1, hq, hl, hw⟩ := hw
  subst e1
  cases r
  obtain ⟨its, rv, p, hz⟩ := I.list hq
  rw [assign_Tuple]
  refine wpAny_bind (wpAny_standAt ?_)
  unfold unpack
  rw [hst, show (assignEach es X.env).length = its.toArray.size by simp [hn, ← hl, rv.length]]
  refine wpAny_bind (wpAny_holding (items_lst (I.ok.hd hc) p.isList fun g hx => ?_))
  have I1 : Inv X pins σ H { s with heap := g } := I.kept (t' := s.toks) fun b o e => hx b o (Nat.ne_of_lt (Heap.lt_size e)) e
  exact h pins _ σ H xs _ Q I1 (by simpa using rv) hw
theorem k_glst (K : PySem.W.Frag) {pos : Pos} {es : List Expr} {k : Nat} {t : TGs} {n : Nat} (hc : X.calm = true) (hh : PGs X es t)
    (hn : (assignEach es X.env).length = n := by rfl) (hst : (assignEach es X.env).findIdx? (·.1) = none := by rfl) (h : X.K = K := by rfl) : PG X (.Tuple es k pos) (gLst K n t) := h ▸ pg_lst hc hh hn hst
end
section
variable {K : PySem.W.Frag} {σ : St} {H : Hp}
theorem rd_glst {n : Nat} {t : TGs} {a : Addr} {xs : List V} {P : St → Hp → Prop} (e : H a = some (.lst xs)) (l : xs.length = n) (h : t xs σ H P) : gLst K n t (.ref a) σ H P := ⟨a, xs, rfl, SqL.of e, l, h⟩
end
end L2

set_option Elab.async false
set_option linter.all false
set_option maxRecDepth 100000
set_option maxHeartbeats 1000000
namespace L2
open PySem PySem.Spec PyProof.Rows
/-! ### min and max of a list of ints -/
section
variable {P : Program} {w : World} {A : Around} {E : Value → Shared → Prop} {s : Shared}
end
section
variable {X : Cx}
end
section
variable {K : PySem.W.Frag} {σ : St} {H : Hp} {Q : VK}
end
end L2

set_option Elab.async false
set_option linter.all false
set_option maxRecDepth 100000
set_option maxHeartbeats 1000000
namespace L2
open PySem PyProof.Rows
/-! ### t < u of tuples of any things, item by item -/
noncomputable def RcLt (A : Around) (s : Shared) (u v : Value) (r : Bool) : Prop := ∀ (prog : Program) (w : World) (E Q : Value → Shared → Prop), Q (.bool r) s → wpAny (model prog w) A (richCompare .Lt u v) Q E s
inductive LtAt (A : Around) (s : Shared) : List Value → List Value → Bool → Prop
  | nn : LtAt A s [] [] false
  | nc {v vs} : LtAt A s [] (v :: vs) true
  | cn {u us} : LtAt A s (u :: us) [] false
  | eq {u v us vs r} : SeqAt.EqAt A s u v true → LtAt A s us vs r → LtAt A s (u :: us) (v :: vs) r
  | ne {u v us vs r} : SeqAt.EqAt A s u v false → RcLt A s u v r → LtAt A s (u :: us) (v :: vs) r
section
open PySem.SeqAt
open PySem.AutoSeq1 (wpAny_loadPart')
open PySem.MeetsSeq PySem.MeetsSeq2 PySem.MeetsSeq3
end
end L2

set_option Elab.async false
set_option linter.all false
set_option maxRecDepth 100000
set_option maxHeartbeats 1000000
namespace L2
open PySem PySem.Spec PyProof.Rows
/-! ### within a built-in -/
noncomputable abbrev Cx.in1 (X : Cx) : Cx := { X with A := X.A.in1 }
section
variable {X : Cx} {pins : List (Addr × Obj)} {σ : St} {H : Hp} {s : Shared}
theorem Cx.Ok.in1 (ok : X.Ok) : X.in1.Ok := ⟨ok.mod, ok.kind, ok.glob, ok.blt, ok.above, ok.inj, ok.has, ok.cab, ok.hd, ok.frames, ok.stk, ok.exf, ok.bs, ok.bsz, ok.noex, ok.exfs, ok.funs, ok.frf⟩
theorem Inv.in1 (I : Inv X pins σ H s) : Inv X.in1 pins σ H s := ⟨I.ok.in1, I.os, I.bare, I.base, I.loc, I.cell, I.free, I.freeC, I.pin, I.hok, I.len⟩
end
/-! ### a lambda's frame -/
section
variable {X : Cx} {pins : List (Addr × Obj)} {σ : St} {H : Hp} {s : Shared} {qual : Str} {sc : Scope} {M : List Str} {q : Addr} {cd : Value}
end
end L2

set_option Elab.async false
set_option linter.all false
set_option maxRecDepth 100000
set_option maxHeartbeats 1000000
namespace L2
open PySem PySem.Spec PyProof.Rows
/-! ### the table of a def's code: a lambda's code is made once -/
structure TabB (base : Heap) (mg : Str → Option Value) (c P : Addr) : Prop where
  hd : PySem.W.CodeHd base c P
  bl : base.BuiltinsAt mg P
section
variable {X : Cx} {pins : List (Addr × Obj)} {σ : St} {H : Hp} {s : Shared}
end
end L2

set_option Elab.async false
set_option linter.all false
set_option maxRecDepth 100000
set_option maxHeartbeats 1000000
namespace L2
open PySem PySem.Spec PyProof.Rows
structure Ow (X : Cx) (pins : List (Addr × Obj)) (a : Addr) : Prop where
  loc : a ≠ X.env.locals
  fs : a ∉ X.fs
  new : a ∈ X.ex ∨ X.s₀.heap.objs.size ≤ a
  cel : ∀ x c, X.env.cells.lookup x = some c → c ≠ a
  pin : ∀ p ∈ X.pn ++ pins, p.1 ≠ a
section
variable {X : Cx} {pins p1 p2 : List (Addr × Obj)} {σ : St} {H : Hp} {s : Shared}
theorem Ow.sub {a : Addr} {pl : List (Addr × Obj)} (o : Ow X pins a) (h : ∀ p ∈ pl, p ∈ pins ∨ p.1 ≠ a) : Ow X pl a :=
  ⟨o.loc, o.fs, o.new, o.cel, fun p hp => by
    rcases List.mem_append.mp hp with z | z
    · exact o.pin p (List.mem_append_left _ z)
    · rcases h p z with y | y
      · exact o.pin p (List.mem_append_right _ y)
      · exact y⟩
/-- a step between two turns -/
structure MinW (K : PySem.W.Frag) (σ : St) (l : Addr) (xs : List V) (lt : R2) (te : TE) (f : V → St) (G : Hp → Prop) (W : Nat → Nat → V → Hp → Prop) (Q : VK) : Prop where
  lst : ∀ j b k H, W j b k H → H l = some (.lst xs) ∧ G H
  turn : ∀ j b k H x, W j b k H → xs[j]? = some x → te (f x) H fun k' H' => lt k' k H' fun z H'' => ∃ c, z = .bl c ∧ if c = true then W (j + 1) j k' H'' else W (j + 1) b k H''
  fin : ∀ b k H x, W xs.length b k H → xs[b]? = some x → Q x H
end
end L2

set_option Elab.async false
set_option linter.all false
set_option maxRecDepth 100000
set_option maxHeartbeats 1000000
namespace L2
open PySem PySem.Spec PyProof.Rows
/-! ### the head, with the table of one def's code tracked -/
structure TabK (K : PySem.W.Frag) (base : Heap) (mg : Str → Option Value) (x : Str) (c P : Addr) : Prop where
  kin : K.In base
  ns : base.Ns mainGlobals mg
  tab : PySem.W.tabIn K x = some (c, P)
  b : TabB base mg c P
end L2

set_option Elab.async false
set_option linter.all false
set_option maxRecDepth 100000
set_option maxHeartbeats 1000000
namespace L2
open PySem PySem.Spec PyProof.Rows
/-! ### d < e of ints and tuples of such -/
section
variable {X : Cx} {pins : List (Addr × Obj)} {σ : St} {H : Hp} {s : Shared}
end
end L2

set_option Elab.async false
set_option linter.all false
set_option maxRecDepth 100000
set_option maxHeartbeats 1000000
namespace L2
open PySem PySem.Spec PyProof.Rows
/-! ### enumerate of a tuple -/
section
open PySem.AutoSeq1 (wpAny_loadPart')
variable {prog : Program} {w : World} {A : Around} {E : Value → Shared → Prop} {s : Shared}
theorem nextOf_tuple_item {it l : Addr} {i : Nat} {items} {x : Value} {Q : Value → Shared → Prop} (hit : s.heap.IsTupleIter it l i)
    (hl : s.heap.IsTuple l items) (hx : items[i]? = some x)
    (hQ : ∀ h', h'.IsTupleIter it l (i + 1) → Heap.SameBut it s.heap h' → Q x { s with heap := h' }) :
    wpAny (model prog w) A (Builtin.SmallTypes.nextOf (.ref it)) Q E s := by
  obtain ⟨o, ho, hc, hd⟩ := id hit
  obtain ⟨ol, hol, _, nl, hdl⟩ := hl
  unfold Builtin.SmallTypes.nextOf
  refine wpAny_bind (wpAny_callSpecial?_slot (name := Str.ofString "__next__") hit.typeIs F.slot_tuple_iterator_next
    (wpAny_call_entry F.slot_tuple_iterator_next hit.typeIs F.entry_tuple_iterator_next ?_ (F.args_tuple_iterator_next_1 _)))
  show wpAny _ _ (field (.ref it) 0 >>= _) _ _ s
  refine wpAny_bind (wpAny_field ho hd (x := .ref l) rfl ?_)
  show wpAny _ _ (if (Value.ref l == Value.none) = true then _ else _) _ _ s
  rw [if_neg (show ¬ ((Value.ref l == Value.none) = true) from Bool.false_ne_true)]
  show wpAny _ _ (field (.ref it) 1 >>= _) _ _ s
  refine wpAny_bind (wpAny_field ho hd (x := .int i 0) rfl ?_)
  show wpAny _ _ (seqItems? (.ref l) >>= _) _ _ s
  refine wpAny_bind (wpAny_seqItems hol hdl ?_)
  simp only [Int.toNat_natCast, hx]
  refine wpAny_bind (wpAny_setField ho hd (by simp) (wpAny_pure ⟨x, rfl, wpAny_pure (hQ _ ?_ (Heap.SameBut.update ..))⟩))
  exact ⟨_, Heap.get?_update_self _ ho (Obj.isFreed_of_fields (Obj.data_mapFields hd _)), (Obj.cls_mapFields ..).trans hc, by
    rw [Obj.data_mapFields hd]; simp [rawInt]⟩
theorem nextOf_tuple_end {it l : Addr} {i : Nat} {items} {Q : Value → Shared → Prop} (hh : A.handled = none)
    (hit : s.heap.IsTupleIter it l i) (hl : s.heap.IsTuple l items) (hx : items[i]? = none)
    (hE : ∀ h' e, Heap.ExtBut it s.heap h' → (∃ o, h'.get? e = some o ∧ o.cls = .type "StopIteration") → E (.ref e) { s with heap := h' }) :
    wpAny (model prog w) A (Builtin.SmallTypes.nextOf (.ref it)) Q E s := by
  obtain ⟨o, ho, hc, hd⟩ := id hit
  obtain ⟨ol, hol, _, nl, hdl⟩ := hl
  unfold Builtin.SmallTypes.nextOf
  refine wpAny_bind (wpAny_callSpecial?_slot (name := Str.ofString "__next__") hit.typeIs F.slot_tuple_iterator_next
    (wpAny_call_entry F.slot_tuple_iterator_next hit.typeIs F.entry_tuple_iterator_next ?_ (F.args_tuple_iterator_next_1 _)))
  show wpAny _ _ (field (.ref it) 0 >>= _) _ _ s
  refine wpAny_bind (wpAny_field ho hd (x := .ref l) rfl ?_)
  show wpAny _ _ (if (Value.ref l == Value.none) = true then _ else _) _ _ s
  rw [if_neg (show ¬ ((Value.ref l == Value.none) = true) from Bool.false_ne_true)]
  show wpAny _ _ (field (.ref it) 1 >>= _) _ _ s
  refine wpAny_bind (wpAny_field ho hd (x := .int i 0) rfl ?_)
  show wpAny _ _ (seqItems? (.ref l) >>= _) _ _ s
  refine wpAny_bind (wpAny_seqItems hol hdl ?_)
  simp only [Int.toNat_natCast, hx]
  refine wpAny_bind (wpAny_rule (wpAny_bind (wpAny_setField ho hd (by simp) ?_)))
  show wpAny _ _ (newExc (.type "StopIteration") [] >>= _) _ _ _
  refine wpAny_bind ?_
  simp only [newExc, newTuple]
  refine wpAny_bind (wpAny_newObj_type ?_ (by size_fits))
  refine wpAny_bind (m := firstArgMember _ _) (wpAny_of_eq (a := Value.none) (by first | rfl | (simp only [firstArgMember]; rfl)) ?_)
  refine wpAny_newObj_type ?_ (by size_fits)
  simp only [raiseNew]
  refine wpAny_bind (wpAny_handled ?_)
  first | rw [show A.in1.handled = none from hh] | rw [hh]
  refine wpAny_bind (wpAny_pure (wpAny_throw ?_))
  exact hE _ _ (((Heap.SameBut.update ..).extBut.push _).push _) ⟨_, Heap.get?_push_size _ rfl, rfl⟩
end
section
variable {H : Hp} {K : PySem.W.Frag}
end
end L2

set_option Elab.async false
set_option linter.all false
set_option maxRecDepth 100000
set_option maxHeartbeats 1000000
namespace L2
open PySem PySem.Spec PyProof.Rows
/-! ### list(reversed(l)), l[::-1] -/
section
open PySem.F
variable {prog : Program} {w : World} {A : Around} {E : Value → Shared → Prop} {s : Shared}
end
section
variable {X : Cx}
end
end L2

set_option Elab.async false
set_option linter.all false
set_option maxRecDepth 100000
set_option maxHeartbeats 1000000
namespace L2
open PySem PySem.Spec PyProof.Rows
/-! ### zip of two lists -/
structure ZipD (z TI TO i1 i2 : Addr) : Prop where
  TIz : TI ≠ z
  TOz : TO ≠ z
  i1z : i1 ≠ z
  i2z : i2 ≠ z
  TITO : TI ≠ TO
  TIi1 : TI ≠ i1
  TIi2 : TI ≠ i2
  TOi1 : TO ≠ i1
  TOi2 : TO ≠ i2
  i12 : i1 ≠ i2
theorem nea {a b : Nat} (h : ¬ a = b) : @Ne Addr a b := h
section
variable {H : Hp} {K : PySem.W.Frag}
end
end L2

set_option Elab.async false
set_option linter.all false
set_option maxRecDepth 100000
set_option maxHeartbeats 1000000
namespace L2
open PySem PySem.Spec PyProof.Rows

/-! ### lists of pairs as tables -/
section
variable {κ : Type} [DecidableEq κ]
noncomputable def valV (kvs : List (κ × V)) (k : κ) : Option V := (kvs.find? fun kv => decide (kv.1 = k)).map (·.2)
/-- in its place, or at the end -/
noncomputable def putK (kvs : List (κ × V)) (k : κ) (v : V) : List (κ × V) :=
  if (kvs.any fun kv => decide (kv.1 = k)) = true then kvs.map (fun kv => if kv.1 = k then (kv.1, v) else kv) else kvs ++ [(k, v)]
noncomputable def dropK (kvs : List (κ × V)) (k : κ) : List (κ × V) := kvs.filter fun kv => decide (kv.1 ≠ k)

theorem valV_pos {p : κ × V} {r : List (κ × V)} {k : κ} (e : p.1 = k) : valV (p :: r) k = some p.2 := by simp [valV, List.find?_cons, e]
theorem valV_neg {p : κ × V} {r : List (κ × V)} {k : κ} (e : ¬ p.1 = k) : valV (p :: r) k = valV r k := by simp [valV, List.find?_cons, e]

theorem RelO.getD {o : Option V} {u : Option Value} {d : V} {d' : Value} (r : RelO o u) (rd : RelV d d') : RelV (o.getD d) (u.getD d') := by
  cases o with
  | none => cases u with
    | none => exact rd
    | some _ => exact (show False from r).elim
  | some _ => cases u with
    | none => exact (show False from r).elim
    | some _ => exact r

/-- raw tables of the same keys -/
theorem KV.val {kvs : List (κ × V)} {vs : List (κ × Value)} (r : KV kvs vs) (k : κ) : RelO (valV kvs k) (valueAt vs k) := by
  unfold KV at r
  induction r with
  | nil => exact True.intro
  | @cons p q ps qs h t ih =>
    obtain ⟨h1, h2⟩ := h
    by_cases e : p.1 = k
    · have e' : q.1 = k := h1.symm.trans e
      have b : valueAt (q :: qs) k = some q.2 := by simp [valueAt, List.find?_cons, e']
      rw [valV_pos e, b]; exact h2
    · have e' : ¬ q.1 = k := fun z => e (h1.trans z)
      have b : valueAt (q :: qs) k = valueAt qs k := by simp [valueAt, List.find?_cons, e']
      rw [valV_neg e, b]; exact ih
theorem KV.any {kvs : List (κ × V)} {vs : List (κ × Value)} (r : KV kvs vs) (k : κ) : (kvs.any fun kv => decide (kv.1 = k)) = vs.any fun kv => decide (kv.1 = k) := by
  unfold KV at r
  induction r with
  | nil => rfl
  | cons h t ih => rw [List.any_cons, List.any_cons, ih, h.1]
theorem KV.drop {kvs : List (κ × V)} {vs : List (κ × Value)} (r : KV kvs vs) (k : κ) : KV (dropK kvs k) (without vs k) := by
  unfold KV at r ⊢
  unfold dropK without
  induction r with
  | nil => exact .nil
  | @cons p q ps qs h t ih =>
    obtain ⟨h1, h2⟩ := h
    rw [List.filter_cons, List.filter_cons]
    by_cases e : p.1 = k
    · have a : ¬ decide (p.1 ≠ k) = true := by simp [e]
      have b : ¬ decide (q.1 ≠ k) = true := by simp [h1.symm.trans e]
      rw [if_neg a, if_neg b]; exact ih
    · have e' : ¬ q.1 = k := fun z => e (h1.trans z)
      have a : decide (p.1 ≠ k) = true := by simp [e]
      have b : decide (q.1 ≠ k) = true := by simp [e']
      rw [if_pos a, if_pos b]; exact .cons ⟨h1, h2⟩ ih
theorem KV.length {kvs : List (κ × V)} {vs : List (κ × Value)} (r : KV kvs vs) : kvs.length = vs.length := Paired.length r
end


/-! ### a tracked dict, its keys ints and texts or tuples of these -/

/-- raw entries of a dict with tuple keys -/
noncomputable abbrev KT (H : Hp) : List (List Key × V) → List (List Key × Addr × Value) → Prop := Paired fun p q => p.1 = q.1 ∧ H q.2.1 = some (.tup (p.1.map kV)) ∧ RelV p.2 q.2.2
theorem KT.val {H : Hp} {kvs : List (List Key × V)} {xs : List (List Key × Addr × Value)} (r : KT H kvs xs) (k : List Key) : RelO (valV kvs k) ((atKey xs k).map (·.2)) := by
  induction r with
  | nil => exact True.intro
  | @cons p q ps qs h t ih =>
    obtain ⟨h1, _, h2⟩ := h
    by_cases e : p.1 = k
    · have e' : q.1 = k := h1.symm.trans e
      have b : atKey (q :: qs) k = some q.2 := by simp [atKey, List.find?_cons, e']
      rw [valV_pos e, b]; exact h2
    · have e' : ¬ q.1 = k := fun z => e (h1.trans z)
      have b : atKey (q :: qs) k = atKey qs k := by simp [atKey, List.find?_cons, e']
      rw [valV_neg e, b]; exact ih
theorem KT.keeps {H H' : Hp} {kvs : List (List Key × V)} {xs : List (List Key × Addr × Value)} (r : KT H kvs xs) (ht : ∀ b ys, H b = some (.tup ys) → H' b = some (.tup ys)) : KT H' kvs xs :=
  Paired.mapP r fun _ _ z => ⟨z.1, ht _ _ z.2.1, z.2.2⟩

section
variable {P : Program} {w : World} {H : Hp} {h : Heap} {a : Addr}
end

/-- what the dict at a holds at the key y -/
noncomputable def DGet (H : Hp) (a : Addr) (y : V) (r : Option V) : Prop :=
  (∃ kvs k, Rd H a (.dK kvs) ∧ y = kV k ∧ r = valV kvs k) ∨ ∃ kvs k b, Rd H a (.dT kvs) ∧ y = .ref b ∧ H b = some (.tup (k.map kV)) ∧ r = valV kvs k
/-- the heap behind a[y] = v -/
noncomputable def DPut (H : Hp) (a : Addr) (y v : V) (H' : Hp) : Prop :=
  (∃ kvs k, H a = some (.dK kvs) ∧ y = kV k ∧ kvs.length < sizeLine ∧ H' = upd H a (.dK (putK kvs k v))) ∨
  ∃ kvs k b, H a = some (.dT kvs) ∧ y = .ref b ∧ H b = some (.tup (k.map kV)) ∧ kvs.length < sizeLine ∧ H' = upd H a (.dT (putK kvs k v))
theorem DGet.k {H : Hp} {a : Addr} {kvs : List (Key × V)} {k : Key} (e : H a = some (.dK kvs)) : DGet H a (kV k) (valV kvs k) := .inl ⟨kvs, k, .inl e, rfl, rfl⟩
theorem DGet.t {H : Hp} {a b : Addr} {kvs : List (List Key × V)} {k : List Key} (e : H a = some (.dT kvs)) (eb : H b = some (.tup (k.map kV))) : DGet H a (.ref b) (valV kvs k) := .inr ⟨kvs, k, b, .inl e, rfl, eb, rfl⟩
theorem DPut.k {H : Hp} {a : Addr} {kvs : List (Key × V)} {k : Key} {v : V} (e : H a = some (.dK kvs)) (hl : kvs.length < sizeLine) : DPut H a (kV k) v (upd H a (.dK (putK kvs k v))) := .inl ⟨kvs, k, e, rfl, hl, rfl⟩
theorem DPut.t {H : Hp} {a b : Addr} {kvs : List (List Key × V)} {k : List Key} {v : V} (e : H a = some (.dT kvs)) (eb : H b = some (.tup (k.map kV))) (hl : kvs.length < sizeLine) :
    DPut H a (.ref b) v (upd H a (.dT (putK kvs k v))) := .inr ⟨kvs, k, b, e, rfl, eb, hl, rfl⟩


section
variable {X : Cx} {pins : List (Addr × Obj)} {σ : St} {H : Hp} {s : Shared} {a : Addr} {y v : V} {u r : Value} {o : Option V} {A : Around} {E : Value → Shared → Prop}

theorem Inv.big (I : Inv X pins σ H s) : sysModules < s.heap.objs.size := by
  have h : mainGlobals < s.heap.objs.size := (I.mod.glob.keeps I.bk).lt
  exact Nat.lt_trans (by decide) h

end

section
variable {X : Cx} {pins : List (Addr × Obj)} {σ : St} {H : Hp} {s : Shared} {a : Addr} {kvs : List (Key × V)} {k : Key} {u : Value} {A : Around} {E : Value → Shared → Prop}
end


/-! ### readings and rules -/



section
variable {X : Cx} {o i e value : Expr} {pos pos' tpos : Pos} {td ty tv : TE}
end


/-! ### displays -/
theorem dt_empty {P : Program} {w : World} {H : Hp} (h : Heap) (hb : sysModules < h.objs.size) : ObjOk P w H (h.push { cls := .type "dict", data := .dict #[] }) h.objs.size (.dT []) :=
  ⟨Nat.zero_le _, beq_eq_false_iff_ne.mpr (Ne.symm (Nat.ne_of_lt hb)), [], .nil, _, #[], 0, Heap.get?_push_size _ rfl, ⟨rfl, rfl, rfl⟩, rfl, rfl, List.nodup_nil⟩
noncomputable def tDNewT : TE := fun _ H Q => ∀ p, H p = none → Q (.ref p) (upd H p (.dT []))
section
variable {X : Cx} {pos : Pos}
theorem pe_dnewT : PE X (.Dict [] [] pos) tDNewT := fun pins s σ H Q I h =>
  wpAny_Dict_empty ⟨.ref s.heap.objs.size, _, I.laid (a := s.heap.objs.size) (o := .dT []) (t' := s.toks) (fun _ _ q => Heap.get?_push_of_some _ q) (Nat.le_refl _) (dt_empty s.heap I.big), rfl, h _ (I.hok.fresh (Nat.le_refl _))⟩
end




/-! ### methods -/
/-- a method call o.m(e) of a built-in, with one argument: what must be seen of the text -/
structure M1 (X : Cx) (o : Expr) (m : Str) (apos : Pos) (e : Expr) (cpos : Pos) : Prop where
  base : attributeBase o m X.env (eval o X.env) = eval o X.env
  few : ((backTo cpos (starEach [e] X.env)).all (fun x => !x.1) && (backToKw cpos (keywordEach [] X.env)).all (fun x => x.1.isSome)
    && decide (([e] : List Expr).length + ([] : List Keyword).length + (if ([] : List Keyword).isEmpty then 0 else 1) < 30)) = true
  line : (apos.endLine == cpos.line) = true
  trees : backTo cpos (starEach [e] X.env) = [(false, eval e X.env)]
structure M2 (X : Cx) (o : Expr) (m : Str) (apos : Pos) (e f : Expr) (cpos : Pos) : Prop where
  base : attributeBase o m X.env (eval o X.env) = eval o X.env
  few : ((backTo cpos (starEach [e, f] X.env)).all (fun x => !x.1) && (backToKw cpos (keywordEach [] X.env)).all (fun x => x.1.isSome)
    && decide (([e, f] : List Expr).length + ([] : List Keyword).length + (if ([] : List Keyword).isEmpty then 0 else 1) < 30)) = true
  line : (apos.endLine == cpos.line) = true
  trees : backTo cpos (starEach [e, f] X.env) = [(false, eval e X.env), (false, eval f X.env)]


section
variable {X : Cx} {pins : List (Addr × Obj)} {σ : St} {H : Hp} {s : Shared} {a : Addr} {y d : V} {u r : Value} {o : Option V} {A : Around} {E : Value → Shared → Prop}
end

section
variable {X : Cx} {o e f : Expr} {apos cpos : Pos} {td ty tx : TE}
end

/-! ### dict(d): a copy -/
section
variable {X : Cx} {pins : List (Addr × Obj)} {σ : St} {H : Hp} {s : Shared} {a : Addr} {kvs : List (Key × V)} {A : Around} {E : Value → Shared → Prop}
end


section
variable {X : Cx} {pins : List (Addr × Obj)} {σ : St} {H : Hp} {s : Shared} {a : Addr} {y : V} {u : Value} {A : Around} {E : Value → Shared → Prop}
end
end L2

set_option Elab.async false
set_option linter.all false
set_option maxRecDepth 100000
set_option maxHeartbeats 1000000
namespace L2
open PySem PySem.Spec PyProof.Rows
/-! ### sum of a list of small ints -/
section
variable {X : Cx}
end
section
variable {K : PySem.W.Frag} {σ : St} {H : Hp} {Q : VK}
/-! ### a dict by tuples of ints -/
theorem rd_dnew (h : ∀ p, H p = none → Q (.ref p) (upd H p (.dT []))) : tDNewT σ H Q := h
end
end L2

set_option Elab.async false
set_option linter.all false
set_option maxRecDepth 100000
set_option maxHeartbeats 1000000
namespace L2
open PySem PySem.Spec PyProof.Rows
/-! ### a comprehension whose own name is read within a block of its own: the name is a cell -/
theorem lk {z x : Str} {c0 c : Addr} {cl : List (Str × Addr)} (h : ((z, c0) :: cl).lookup x = some c) : (x = z ∧ c = c0) ∨ (x ≠ z ∧ cl.lookup x = some c) := by
  rw [lookup_consP] at h
  by_cases e : (x == z) = true
  · rw [if_pos e] at h; cases h; exact .inl ⟨by simpa using e, rfl⟩
  · rw [if_neg e] at h; exact .inr ⟨by simpa using e, h⟩
noncomputable def FrOk2 (env : Env) (z : Str) : List (Str × NameKind) → Prop
  | [] => True
  | (n, k) :: r => (match k with | .free => (env.kindOf n = some .cell ∨ env.kindOf n = some .free) ∧ n ≠ z | .cell => n = z | _ => True) ∧ FrOk2 env z r
theorem FrOk2.free {env : Env} {z : Str} : ∀ {ns : List (Str × NameKind)} {n : Str}, FrOk2 env z ns → (n, NameKind.free) ∈ ns → (env.kindOf n = some .cell ∨ env.kindOf n = some .free) ∧ n ≠ z
  | [], _, _, h => by cases h
  | (m, k) :: r, n, f, h => by
    obtain ⟨a, b⟩ := f
    rcases List.mem_cons.mp h with e | e
    · cases e; exact a
    · exact b.free e
section
variable {M : Model} {A : Around} {E : Value → Shared → Prop} {s : Shared}
end
section
variable {X : Cx} {pins : List (Addr × Obj)} {σ : St} {H : Hp} {s : Shared} {sc : Scope} {z : Str} {M : List Str} {C : Addr} {fp : List Addr}
end
section
variable {X : Cx} {pins : List (Addr × Obj)} {σ : St} {sc : Scope} {z : Str} {M : List Str} {fm : List (Option Nat)} {tg iter elt : Expr} {ifs : List Expr} {pos : Pos} {g : TG} {tt : TT} {te : TE}
end
section
variable {X : Cx} {sc : Scope} {M : List Str} {fm : List (Option Nat)} {tg iter elt : Expr} {ifs : List Expr} {pos : Pos} {g : TG} {tt : TT} {te : TE} {wi : TI}
end
end L2

set_option Elab.async false
set_option linter.all false
set_option maxRecDepth 100000
set_option maxHeartbeats 1000000
namespace L2
open PySem PyProof.Rows
/-! ### t.index(i) of a tuple of ints -/
section
open PySem.SeqAt
open PySem.AutoSeq1 (wpAny_loadPart')
open PySem.MeetsSeq PySem.MeetsSeq2 PySem.MeetsSeq3
end
section
variable {X : Cx}
end
end L2

set_option Elab.async false
set_option linter.all false
set_option maxRecDepth 100000
set_option maxHeartbeats 1000000
namespace L2
open PySem PySem.Spec PyProof.Rows
section
variable {P : Program} {w : World} {K : PySem.W.Frag} {mg : Str → Option Value} {base : Heap} {CX : CXT} {k : Nat} {f : Addr} {fd : FuncData} {ps : List Str} {sp sp' : Sp}
/-- what never refuses may be called where something does -/
theorem FnOk.lift (F : FnOk P w K mg base CX0 k f fd ps sp) : FnOk P w K mg base (CXE P w) k f fd ps sp :=
  ⟨F.len, fun A outer s H args us vs Q E hr he hb hv hs => codeAny_mono (F.run A outer s H args us vs Q E hr he hb hv hs) fun r s' h => by
    cases r with
    | error e => exact h.elim
    | ok fl =>
      cases fl with
      | ret u => exact h
      | _ => exact h.elim⟩
/-- two contracts of one def -/
theorem FnOk.or (F : FnOk P w K mg base CX k f fd ps sp) (G : FnOk P w K mg base CX k f fd ps sp') : FnOk P w K mg base CX k f fd ps (fun vs H Q E => sp vs H Q E ∨ sp' vs H Q E) :=
  ⟨fun vs H Q E h => h.elim (F.len vs H Q E) (G.len vs H Q E), fun A outer s H args us vs Q E hr he hb hv hs => hs.elim (F.run A outer s H args us vs Q E hr he hb hv) (G.run A outer s H args us vs Q E hr he hb hv)⟩
end
end L2

set_option Elab.async false
set_option linter.all false
set_option maxRecDepth 100000
set_option maxHeartbeats 1000000
namespace HT
open PySem PySem.Spec PyProof.Rows L2
section
variable {prog : Program} {w : World} {A : Around} {E : Value → Shared → Prop} {s : Shared}
theorem getItem_tuple_whole {t sl : Addr} {items : Array Value} {vl vu : Value} {lo hi : Option Int} {Q : Value → Shared → Prop} (ht : IsTup s.heap t items) (hs : s.heap.IsSliceOf sl vl vu .none) (pl : IsPart vl lo) (pu : IsPart vu hi)
    (hw : sIx items.size 0 lo = 0 ∧ sIx items.size items.size hi = items.size) (h : Q (.ref t) s) : wpAny (model prog w) A (getItem (.ref t) (.ref sl)) Q E s := by
  have hj : sIx items.size items.size hi ≤ items.size := sIx_le _ _ (Nat.le_refl _) hi
  obtain ⟨os, hos, hcs, hds⟩ := id hs
  have hTs : s.TypeIs (.ref sl) "slice" := ⟨os, hos, hcs⟩
  unfold getItem
  try with_reducible refine wpAny_holding ?_
  first | refine wpAny_bind (wpAny_pure ?_) | skip
  refine wpAny_bind (wpAny_sequenceKey ht.typeIs (by decide) ?_)
  refine wpAny_bind (wpAny_callSpecial?_slot (name := Str.ofString "__getitem__") ht.typeIs PyProof.Rows.slot_tuple_getitem
    (wpAny_call_entry PyProof.Rows.slot_tuple_getitem ht.typeIs entry_tuple_getitem ?_ (args_tuple_getitem _ _)))
  show wpAny _ _ (Builtin.Tuple.tupleItemsOf (.ref t) >>= _) _ _ s
  refine wpAny_bind (tupleItemsOf_ ht ?_)
  refine wpAny_bind (wpAny_typeOf hTs ?_)
  rw [if_pos (by decide)]
  refine wpAny_bind (sliceApplied_gen hs pl pu ?_)
  have hyes : (((sIx items.size 0 lo : Nat) : Int) == 0 && (1 : Int) == 1 && (sIx items.size items.size hi - sIx items.size 0 lo) == items.size) = true := by
    rw [hw.1, hw.2]
    simp
  show wpAny _ _ (if (((sIx items.size 0 lo : Nat) : Int) == 0 && (1 : Int) == 1 && (sIx items.size items.size hi - sIx items.size 0 lo) == items.size) = true then _ else _) _ _ s
  rw [if_pos hyes]
  unfold Builtin.Tuple.tupleIsExact
  refine wpAny_bind (wpAny_bind (wpAny_typeOf ht.typeIs (wpAny_pure ?_)))
  rw [if_pos (by decide)]
  exact wpAny_bind (wpAny_rule (wpAny_pure ⟨_, rfl, wpAny_pure h⟩))

end
end HT
namespace L2
open PySem PyProof.Rows
section
variable {X : Cx}
/-! t[lo:hi] of a tuple, the whole of it too -/
noncomputable def rSlW (K : PySem.W.Frag) : V → Option Int → Option Int → Hp → VK → Prop := fun x lo hi H Q => ∃ a xs, x = .ref a ∧ SqT K H a xs ∧ ((HT.sIx xs.length 0 lo = 0 ∧ HT.sIx xs.length xs.length hi = xs.length) → Q (.ref a) H) ∧
  (¬ (HT.sIx xs.length 0 lo = 0 ∧ HT.sIx xs.length xs.length hi = xs.length) → ∀ p, H p = none → Q (.ref p) (upd H p (.tup (cutV xs lo hi))))
theorem sl_whole : SlR X (rSlW X.K) := by
  intro pins s σ H x v vl vu lo hi sl Q I rx hs pl pu h
  obtain ⟨a, xs, rfl, hx, q1, q2⟩ := h
  by_cases hw : HT.sIx xs.length 0 lo = 0 ∧ HT.sIx xs.length xs.length hi = xs.length
  · cases rx
    obtain ⟨its, r, ht, hz⟩ := I.tuple hx
    have hlen : its.toArray.size = xs.length := by
      rw [List.size_toArray]
      exact r.length.symm
    exact ⟨"tuple", _, slot_tuple_getitem.lookup, ht.typeIs, HT.getItem_tuple_whole ht hs pl pu (by rw [hlen]; exact hw) ⟨.ref a, H, I, rfl, q1 hw⟩⟩
  · exact sl_tup pins s σ H _ _ vl vu lo hi sl Q I rx hs pl pu ⟨a, xs, rfl, hx, hw, q2 hw⟩
theorem k_slW (K : PySem.W.Frag) (h : X.K = K := by rfl) : SlR X (rSlW K) := h ▸ sl_whole
theorem cut_whole {xs : List V} {lo hi : Option Int} (h : HT.sIx xs.length 0 lo = 0 ∧ HT.sIx xs.length xs.length hi = xs.length) : cutV xs lo hi = xs := by
  unfold cutV
  rw [h.1, h.2]
  simp
/-- a slice, whole or not: a tuple of what is cut out -/
theorem rd_slW {K : PySem.W.Frag} {H : Hp} {Q : VK} {a : Addr} {xs : List V} {lo hi : Option Int} (e : H a = some (.tup xs)) (h : ∀ p H', Same H H' → H' p = some (.tup (cutV xs lo hi)) → Q (.ref p) H') : rSlW K (.ref a) lo hi H Q :=
  ⟨a, xs, rfl, SqT.of e, fun w => h a H (Same.refl H) (by rw [cut_whole w]; exact e), fun _ p hp => h p _ (Same.upd hp) upd_same⟩
end
end L2

set_option Elab.async false
set_option linter.all false
set_option maxRecDepth 100000
set_option maxHeartbeats 1000000
namespace L2
open PySem PySem.Spec PyProof.Rows
/-! ### zip of two tuples, also of other lengths: by what each of the two sources gives -/
section
variable {prog : Program} {w : World} {A : Around} {E : Value → Shared → Prop} {s : Shared}
/-- a source gives x, and goes from S to T; nothing but itself is changed -/
noncomputable def Gives (prog : Program) (w : World) (A : Around) (i : Addr) (S T : Heap → Prop) (x : Value) : Prop :=
  ∀ (s : Shared) (Q : Value → Shared → Prop) (E : Value → Shared → Prop), S s.heap → (∀ h', T h' → Heap.SameBut i s.heap h' → Q x { s with heap := h' }) → wpAny (model prog w) A (Builtin.SmallTypes.nextOf (.ref i)) Q E s
/-- a source has nothing more -/
noncomputable def Runs (prog : Program) (w : World) (A : Around) (i : Addr) (S : Heap → Prop) : Prop :=
  ∀ (s : Shared) (Q : Value → Shared → Prop) (E : Value → Shared → Prop), S s.heap → (∀ h' e, Heap.ExtBut i s.heap h' → (∃ o, h'.get? e = some o ∧ o.cls = .type "StopIteration") → E (.ref e) { s with heap := h' }) → wpAny (model prog w) A (Builtin.SmallTypes.nextOf (.ref i)) Q E s
noncomputable def Stb (S : Heap → Prop) (c : Addr) : Prop := ∀ h h', S h → Heap.ExtBut c h h' → S h'
/-- what a zip is made of -/
noncomputable def ZipOf (h : Heap) (z TI TO i1 i2 : Addr) (a b : Value) : Prop := IsZip h z TI TO .none ∧ IsPair h TI (.ref i1) (.ref i2) ∧ IsPair h TO a b
theorem zip_gives {z TI TO i1 i2 : Addr} {S1 T1 S2 T2 : Heap → Prop} {x y a b : Value} {Q : Value → Shared → Prop} (D : ZipD z TI TO i1 i2) (Z : ZipOf s.heap z TI TO i1 i2 a b) (p1 : S1 s.heap) (p2 : S2 s.heap)
    (G1 : Gives prog w A i1 S1 T1 x) (G2 : Gives prog w A i2 S2 T2 y) (b1 : Stb S1 z) (b2z : Stb S2 z) (b21 : Stb S2 i1) (b2O : Stb S2 TO) (c1z : Stb T1 z) (c1O : Stb T1 TO) (c12 : Stb T1 i2) (c2z : Stb T2 z) (c2O : Stb T2 TO)
    (k : ∀ h', IsZip h' z TI TO (rawInt s.heap.objs.size) → IsPair h' TO x y → T1 h' → T2 h' → IsPair h' s.heap.objs.size x y →
      (∀ c o, c ≠ z → c ≠ TO → c ≠ i1 → c ≠ i2 → s.heap.get? c = some o → h'.get? c = some o) → Q (.ref s.heap.objs.size) { s with heap := h' }) :
    wpAny (model prog w) A (Builtin.«zip.__next__» ⟨[.ref z], []⟩) (fun fin s' => ∃ v, fin = .done (.ret v) ∧ Q v s') E s := by
  show wpAny _ _ (field (.ref z) 2 >>= _) _ _ _
  refine wpAny_bind (wpAny_field Z.1 rfl (x := .bool false) rfl ?_)
  show wpAny _ _ (field (.ref z) 3 >>= _) _ _ _
  refine wpAny_bind (wpAny_field Z.1 rfl (x := .ref TI) rfl (wpAny_bind (wpAny_seqItems Z.2.1 rfl ?_)))
  show wpAny _ _ (Builtin.SmallTypes.ownedTupleIsFree (.ref z) >>= _) _ _ _
  refine wpAny_bind (wpAny_bind (wpAny_field Z.1 rfl (x := .none) rfl (wpAny_pure ?_)))
  simp only [if_true]
  refine wpAny_bind (wpAny_rule (wpAny_bind (wpAny_field Z.1 rfl (x := .ref TO) rfl (wpAny_bind (wpAny_setField_rec Z.1 (by simp) fun g1 Zg e1 => ?_)))))
  have Z1 : IsZip g1 z TI TO .ellipsis := Zg
  refine wpAny_bind ?_
  simp only [List.zipIdx_cons, List.zipIdx_nil, List.forIn_cons, List.forIn_nil]
  refine wpAny_bind (wpAny_bind (wpAny_onRaise ?_))
  show wpAny _ _ (Builtin.SmallTypes.nextOf (.ref i1) >>= _) _ _ _
  refine wpAny_bind (G1 _ _ _ (b1 _ _ p1 e1.extBut) fun g2 q1 e2 => wpAny_pure ?_)
  have O2 : IsPair g2 TO a b := e2.extBut _ _ D.TOi1 (e1.extBut _ _ D.TOz Z.2.2)
  refine wpAny_bind (wpAny_seqItems O2 rfl (wpAny_bind (wpAny_updateSeq_pair O2 fun g3 O e3 => wpAny_bind (wpAny_letGo (wpAny_pure ?_)))))
  have O3 : IsPair g3 TO x b := O
  refine wpAny_bind (wpAny_bind (wpAny_onRaise ?_))
  show wpAny _ _ (Builtin.SmallTypes.nextOf (.ref i2) >>= _) _ _ _
  have p23 : S2 g3 := b2O _ _ (b21 _ _ (b2z _ _ p2 e1.extBut) e2.extBut) e3.extBut
  have Z3 : IsZip g3 z TI TO .ellipsis := e3.extBut _ _ D.TOz.symm (e2.extBut _ _ D.i1z.symm Z1)
  refine wpAny_bind (G2 _ _ _ p23 fun g4 q2 e4 => wpAny_pure ?_)
  have O4 : IsPair g4 TO x b := e4.extBut _ _ D.TOi2 O3
  refine wpAny_bind (wpAny_seqItems O4 rfl (wpAny_bind (wpAny_updateSeq_pair O4 fun g5 O' e5 => wpAny_bind (wpAny_letGo (wpAny_pure (wpAny_pure ?_))))))
  have O5 : IsPair g5 TO x y := O'
  have n5 : g5.objs.size = s.heap.objs.size := e5.1.trans (e4.1.trans (e3.1.trans (e2.1.trans e1.1)))
  have Z5 : IsZip g5 z TI TO .ellipsis := e5.extBut _ _ D.TOz.symm (e4.extBut _ _ D.i2z.symm Z3)
  have keep5 : ∀ c o, c ≠ z → c ≠ TO → c ≠ i1 → c ≠ i2 → s.heap.get? c = some o → g5.get? c = some o := fun c o h1 h2 h3 h4 e =>
    e5.extBut _ _ h2 (e4.extBut _ _ h4 (e3.extBut _ _ h2 (e2.extBut _ _ h3 (e1.extBut _ _ h1 e))))
  have r1 : T1 g5 := c1O _ _ (c12 _ _ (c1O _ _ q1 e3.extBut) e4.extBut) e5.extBut
  have r2 : T2 g5 := c2O _ _ q2 e5.extBut
  have lt : z < g5.objs.size := Heap.lt_size Z5
  refine wpAny_bind (wpAny_seqItems O5 rfl (wpAny_bind (wpAny_newTuple ?_)))
  show wpAny _ _ (Builtin.SmallTypes.ownedTupleHandOut (.ref z) (.ref g5.objs.size) >>= _) _ _ _
  have Z6 : IsZip (g5.push { cls := .type "tuple", data := .seq #[x, y] }) z TI TO .ellipsis := Heap.get?_push_of_some _ Z5
  refine wpAny_bind (wpAny_bind (wpAny_setField_rec Z6 (by simp) fun g7 Z7 e7 => wpAny_setField_rec Z7 (by simp) fun g8 Z8 e8 => ?_))
  have up : Heap.ExtBut z g5 g8 := fun c o hc e => e8.extBut _ _ hc (e7.extBut _ _ hc (Heap.get?_push_of_some _ e))
  have P8 : IsPair g8 g5.objs.size x y := e8.extBut _ _ (Nat.ne_of_gt lt) (e7.extBut _ _ (Nat.ne_of_gt lt) (Heap.get?_push_size _ rfl))
  refine wpAny_pure ⟨_, rfl, ?_⟩
  have Z9 : IsZip g8 z TI TO (rawInt g5.objs.size) := Z8
  show Q (.ref g5.objs.size) _
  rw [n5] at P8 Z9 ⊢
  exact k g8 Z9 (up _ _ D.TOz O5) (c1z _ _ r1 up) (c2z _ _ r2 up) P8 fun c o h1 h2 h3 h4 e => up c o h1 (keep5 c o h1 h2 h3 h4 e)
/-- the first source has nothing more, or the second one -/
theorem zip_runs {z TI TO i1 i2 : Addr} {S1 T1 S2 : Heap → Prop} {x a b : Value} {Q : Fin → Shared → Prop} (D : ZipD z TI TO i1 i2) (Z : ZipOf s.heap z TI TO i1 i2 a b) (p1 : S1 s.heap) (p2 : S2 s.heap) (b1 : Stb S1 z) (b2z : Stb S2 z) (b21 : Stb S2 i1) (b2O : Stb S2 TO)
    (G : Runs prog w A i1 S1 ∨ (Gives prog w A i1 S1 T1 x ∧ Runs prog w A i2 S2))
    (k : ∀ h' e, (∀ c o, c ≠ z → c ≠ TO → c ≠ i1 → c ≠ i2 → s.heap.get? c = some o → h'.get? c = some o) → (∃ o, h'.get? e = some o ∧ o.cls = .type "StopIteration") → E (.ref e) { s with heap := h' }) :
    wpAny (model prog w) A (Builtin.«zip.__next__» ⟨[.ref z], []⟩) Q E s := by
  show wpAny _ _ (field (.ref z) 2 >>= _) _ _ _
  refine wpAny_bind (wpAny_field Z.1 rfl (x := .bool false) rfl ?_)
  show wpAny _ _ (field (.ref z) 3 >>= _) _ _ _
  refine wpAny_bind (wpAny_field Z.1 rfl (x := .ref TI) rfl (wpAny_bind (wpAny_seqItems Z.2.1 rfl ?_)))
  show wpAny _ _ (Builtin.SmallTypes.ownedTupleIsFree (.ref z) >>= _) _ _ _
  refine wpAny_bind (wpAny_bind (wpAny_field Z.1 rfl (x := .none) rfl (wpAny_pure ?_)))
  simp only [if_true]
  refine wpAny_bind (wpAny_rule (wpAny_bind (wpAny_field Z.1 rfl (x := .ref TO) rfl (wpAny_bind (wpAny_setField_rec Z.1 (by simp) fun g1 Zg e1 => ?_)))))
  have Z1 : IsZip g1 z TI TO .ellipsis := Zg
  refine wpAny_bind ?_
  simp only [List.zipIdx_cons, List.zipIdx_nil, List.forIn_cons, List.forIn_nil]
  refine wpAny_bind (wpAny_bind (wpAny_onRaise ?_))
  show wpAny _ _ (Builtin.SmallTypes.nextOf (.ref i1) >>= _) _ _ _
  have fin : ∀ {g : Heap} {e : Addr}, IsZip g z TI TO .ellipsis → (∃ o, g.get? e = some o ∧ o.cls = .type "StopIteration") → e ≠ z := fun hg ⟨o, ho, hc⟩ q => by
    subst q
    rw [hg] at ho
    cases ho
    simp at hc
  rcases G with G | ⟨G1, G⟩
  · refine wpAny_bind (G _ _ _ (b1 _ _ p1 e1.extBut) fun g2 e e2 he => ?_)
    have Z2 : IsZip g2 z TI TO .ellipsis := e2 _ _ D.i1z.symm Z1
    have ne := fin Z2 he
    exact wpAny_setField_rec Z2 (by simp) fun g3 _ e3 => k g3 e (fun c o h1 _ h3 _ q => e3.extBut _ _ h1 (e2 _ _ h3 (e1.extBut _ _ h1 q))) (let ⟨o, ho, hc⟩ := he; ⟨o, e3.extBut _ _ ne ho, hc⟩)
  · refine wpAny_bind (G1 _ _ _ (b1 _ _ p1 e1.extBut) fun g2 q1 e2 => wpAny_pure ?_)
    have O2 : IsPair g2 TO a b := e2.extBut _ _ D.TOi1 (e1.extBut _ _ D.TOz Z.2.2)
    refine wpAny_bind (wpAny_seqItems O2 rfl (wpAny_bind (wpAny_updateSeq_pair O2 fun g3 O e3 => wpAny_bind (wpAny_letGo (wpAny_pure ?_)))))
    have O3 : IsPair g3 TO x b := O
    refine wpAny_bind (wpAny_bind (wpAny_onRaise ?_))
    show wpAny _ _ (Builtin.SmallTypes.nextOf (.ref i2) >>= _) _ _ _
    have p23 : S2 g3 := b2O _ _ (b21 _ _ (b2z _ _ p2 e1.extBut) e2.extBut) e3.extBut
    have Z3 : IsZip g3 z TI TO .ellipsis := e3.extBut _ _ D.TOz.symm (e2.extBut _ _ D.i1z.symm Z1)
    refine wpAny_bind (G _ _ _ p23 fun g4 e e4 he => ?_)
    have Z4 : IsZip g4 z TI TO .ellipsis := e4 _ _ D.i2z.symm Z3
    have ne := fin Z4 he
    exact wpAny_setField_rec Z4 (by simp) fun g5 _ e5 => k g5 e (fun c o h1 h2 h3 h4 q => e5.extBut _ _ h1 (e4 _ _ h4 (e3.extBut _ _ h2 (e2.extBut _ _ h3 (e1.extBut _ _ h1 q))))) (let ⟨o, ho, hc⟩ := he; ⟨o, e5.extBut _ _ ne ho, hc⟩)
noncomputable def TSrc (i l : Addr) (items : Array Value) (k : Nat) (h : Heap) : Prop := h.IsTupleIter i l k ∧ h.IsTuple l items
theorem tsrc_stb {i l c : Addr} {items : Array Value} {k : Nat} (h1 : i ≠ c) (h2 : l ≠ c) : Stb (TSrc i l items k) c := fun _ _ p e => ⟨p.1.extBut e h1, p.2.extBut e h2⟩
theorem tsrc_gives {i l : Addr} {items : Array Value} {k : Nat} {x : Value} (hl : l ≠ i) (hx : items[k]? = some x) : Gives prog w A i (TSrc i l items k) (TSrc i l items (k + 1)) x :=
  fun s Q E p q => nextOf_tuple_item p.1 p.2 hx fun h' a e => q h' ⟨a, p.2.extBut e.extBut hl⟩ e
theorem tsrc_runs {i l : Addr} {items : Array Value} {k : Nat} (hh : A.handled = none) (hx : items[k]? = none) : Runs prog w A i (TSrc i l items k) :=
  fun s Q E p q => nextOf_tuple_end hh p.1 p.2 hx q
noncomputable abbrev zt1 (h : Heap) (a : Addr) : Heap := h.push { cls := .type "tuple_iterator", data := .fields #[.ref a, .int 0 0] }
noncomputable abbrev zt3 (h : Heap) (a b : Addr) : Heap := (zt1 (zt1 h a) b).push { cls := .type "tuple", data := .seq #[.ref h.objs.size, .ref (zt1 h a).objs.size] }
noncomputable abbrev zt4 (h : Heap) (a b : Addr) : Heap := (zt3 h a b).push { cls := .type "tuple", data := .seq #[.none, .none] }
noncomputable abbrev zt5 (h : Heap) (a b : Addr) : Heap := (zt4 h a b).push { cls := .type "zip", data := .fields #[.none, .bool false, .bool false, .ref (zt1 (zt1 h a) b).objs.size, .ref (zt3 h a b).objs.size] }
theorem made_zipT (a b : Addr) (xs ys : Array Value) :
    Meets (Builtin.«zip.__new__» ⟨[.type "zip", .ref a, .ref b], []⟩) (fun _ R s => s.heap.IsTuple a xs ∧ s.heap.IsTuple b ys ∧ R (.ok (.ret (.ref (zt4 s.heap a b).objs.size))) { s with heap := zt5 s.heap a b }) :=
  .of_wp fun prog w A R s h => by
    obtain ⟨hp, g, d, tk, os⟩ := s; obtain ⟨ha, hb, h⟩ := h
    have hsub := sub_zip
    have t1 : Heap.IsTuple (Shared.heap ⟨hp, g, d, tk, os⟩) a xs := ha
    have t2 : Heap.IsTuple (Shared.heap ⟨zt1 hp a, g, d, tk, os⟩) b ys := Heap.IsTuple.push hb _
    wp_walk using wpAny_pyIter_tuple t1, wpAny_pyIter_tuple t2
    exact ⟨_, rfl, h⟩
theorem call_zipT {a b : Addr} {xs ys : Array Value} {Q : Value → Shared → Prop} (ha : s.heap.IsTuple a xs) (hb : s.heap.IsTuple b ys)
    (h : ∀ h', ZipOf h' (s.heap.objs.size + 4) (s.heap.objs.size + 2) (s.heap.objs.size + 3) s.heap.objs.size (s.heap.objs.size + 1) .none .none → h'.IsTupleIter s.heap.objs.size a 0 → h'.IsTupleIter (s.heap.objs.size + 1) b 0 →
      (∀ c o, s.heap.get? c = some o → h'.get? c = some o) → Q (.ref (s.heap.objs.size + 4)) { s with heap := h' }) :
    wpAny (model prog w) A (call (.type "zip") [.ref a, .ref b]) Q E s := by
  refine callType_new F.called_zip (by decide) (F.typeCall_zip_2 _ _) (F.newCall_zip_2 _ _) (fun obj => F.args_object_init_3 obj _ _) F.entry_zip_new (made_zipT a b xs ys) ⟨ha, hb, ?_⟩
  have m1 : (zt1 s.heap a).objs.size = s.heap.objs.size + 1 := Heap.size_push ..
  have m2 : (zt1 (zt1 s.heap a) b).objs.size = s.heap.objs.size + 2 := by rw [Heap.size_push, m1]
  have m3 : (zt3 s.heap a b).objs.size = s.heap.objs.size + 3 := by rw [Heap.size_push, m2]
  have m4 : (zt4 s.heap a b).objs.size = s.heap.objs.size + 4 := by rw [Heap.size_push, m3]
  have up : ∀ {g : Heap} {c : Addr} {o p : Obj}, g.get? c = some o → (g.push p).get? c = some o := fun e => Heap.get?_push_of_some _ e
  have q5 : (zt5 s.heap a b).get? (zt4 s.heap a b).objs.size = some _ := Heap.get?_push_size _ rfl
  have q4 : (zt5 s.heap a b).get? (zt3 s.heap a b).objs.size = some _ := up (Heap.get?_push_size _ rfl)
  have q3 : (zt5 s.heap a b).get? (zt1 (zt1 s.heap a) b).objs.size = some _ := up (up (Heap.get?_push_size _ rfl))
  have q2 : (zt5 s.heap a b).get? (zt1 s.heap a).objs.size = some _ := up (up (up (Heap.get?_push_size _ rfl)))
  have q1 : (zt5 s.heap a b).get? s.heap.objs.size = some _ := up (up (up (up (Heap.get?_push_size _ rfl))))
  show _ ∧ _
  rw [m2, m3, m4] at q5
  rw [m1, m2] at q3
  rw [m3] at q4
  rw [m1] at q2
  rw [m4]
  exact ⟨⟨_, q5, rfl⟩, h _ ⟨q5, q3, q4⟩ ⟨_, q1, rfl, rfl⟩ ⟨_, q2, rfl, rfl⟩ fun c o x => up (up (up (up (up x))))⟩
end
/-- how a zip of two tuples goes -/
noncomputable def ItzT (K : PySem.W.Frag) (a b : Addr) : It :=
  ⟨fun i H => ∃ xs ys x y, SqT K H a xs ∧ SqT K H b ys ∧ xs[i]? = some x ∧ ys[i]? = some y, fun i H v H' => ∃ T x y, v = .ref T ∧ H T = none ∧ (∀ xs, SqT K H a xs → xs[i]? = some x) ∧ (∀ ys, SqT K H b ys → ys[i]? = some y) ∧ H' = upd H T (.tup [x, y]), fun i H => ∃ xs ys, SqT K H a xs ∧ SqT K H b ys ∧ (xs.length ≤ i ∨ ys.length ≤ i)⟩
noncomputable def ztnT (a b z TI TO i1 i2 : Addr) (i : Nat) (h : Heap) : Prop := (∃ u v, ZipOf h z TI TO i1 i2 u v) ∧ h.IsTupleIter i1 a i ∧ h.IsTupleIter i2 b i
/-- of two tuples that are there none is a part of the zip -/
theorem apartT {a : Addr} {z TI TO i1 i2 : Addr} {h : Heap} {us : Array Value} (ha : h.IsTuple a us) (hz : ∃ o, h.get? z = some o ∧ o.cls = .type "zip") (h1 : ∃ o, h.get? i1 = some o ∧ o.cls = .type "tuple_iterator") (h2 : ∃ o, h.get? i2 = some o ∧ o.cls = .type "tuple_iterator") : a ≠ z ∧ a ≠ i1 ∧ a ≠ i2 := by
  obtain ⟨o, e, c, _⟩ := ha
  obtain ⟨o1, e1, c1⟩ := hz
  obtain ⟨o2, e2, c2⟩ := h1
  obtain ⟨o3, e3, c3⟩ := h2
  refine ⟨fun q => ?_, fun q => ?_, fun q => ?_⟩
  · rw [q, e1] at e; cases e; rw [c1] at c; simp at c
  · rw [q, e2] at e; cases e; rw [c2] at c; simp at c
  · rw [q, e3] at e; cases e; rw [c3] at c; simp at c
theorem turn_zipT {P : Program} {w : World} {K : PySem.W.Frag} {elts : List Expr} {k : Nat} {pos : Pos} (a b z TI TO i1 i2 : Addr) (D : ZipD z TI TO i1 i2) (aO : a ≠ TO) (bO : b ≠ TO) : Turn P w K (.Tuple elts k pos) (ItzT K a b) [z, TI, TO, i1, i2] z (ztnT a b z TI TO i1 i2) where
  mem := by simp
  obj := fun i h st c hc => by
    obtain ⟨⟨u, v, hz, hTI, hTO⟩, ⟨o1, e1, c1, d1⟩, ⟨o2, e2, c2, d2⟩⟩ := st
    simp only [List.mem_cons, List.not_mem_nil, or_false] at hc
    rcases hc with rfl | rfl | rfl | rfl | rfl
    · exact ⟨_, hz, fun v z => by cases z⟩
    · exact ⟨_, hTI, fun v z => by cases z⟩
    · exact ⟨_, hTO, fun v z => by cases z⟩
    · exact ⟨_, e1, fun v z => by rw [d1] at z; cases z⟩
    · exact ⟨_, e2, fun v z => by rw [d2] at z; cases z⟩
  keep := fun i h h' st kk => by
    obtain ⟨⟨u, v, hz, hTI, hTO⟩, h1, h2⟩ := st
    exact ⟨⟨u, v, kk z (by simp) _ hz, kk TI (by simp) _ hTI, kk TO (by simp) _ hTO⟩, h1.at fun o x => kk i1 (by simp) o x, h2.at fun o x => kk i2 (by simp) o x⟩
  item := by
    intro X hP hw hK hc i pins s σ H E I hf st hg
    subst hP hw hK
    obtain ⟨xs, ys, x, y, hqa, hqb, hx, hy⟩ := hg
    obtain ⟨ia, ra, pa, _⟩ := I.tuple hqa
    obtain ⟨ib, rb, pb, _⟩ := I.tuple hqb
    obtain ⟨ux, hux, rux⟩ := ra.get hx
    obtain ⟨uy, huy, ruy⟩ := rb.get hy
    obtain ⟨⟨u, v, Z⟩, h1, h2⟩ := id st
    have kz : ∃ o, s.heap.get? z = some o ∧ o.cls = .type "zip" := ⟨_, Z.1, rfl⟩
    have k1 : ∃ o, s.heap.get? i1 = some o ∧ o.cls = .type "tuple_iterator" := let ⟨o, e, c, _⟩ := h1; ⟨o, e, c⟩
    have k2 : ∃ o, s.heap.get? i2 = some o ∧ o.cls = .type "tuple_iterator" := let ⟨o, e, c, _⟩ := h2; ⟨o, e, c⟩
    obtain ⟨az, a1, a2⟩ := apartT (TI := TI) (TO := TO) pa kz k1 k2
    obtain ⟨bz, b1, b2⟩ := apartT (TI := TI) (TO := TO) pb kz k1 k2
    have zlt : z < s.heap.objs.size := Heap.lt_size Z.1
    have TOlt : TO < s.heap.objs.size := Heap.lt_size Z.2.2
    have TIlt : TI < s.heap.objs.size := Heap.lt_size Z.2.1
    have i1lt : i1 < s.heap.objs.size := by obtain ⟨_, e, _⟩ := k1; exact Heap.lt_size e
    have i2lt : i2 < s.heap.objs.size := by obtain ⟨_, e, _⟩ := k2; exact Heap.lt_size e
    have hT : s.TypeIs (.ref z) "zip" := ⟨_, Z.1, rfl⟩
    unfold pyNext
    refine wpAny_bind (wpAny_attempt (wpAny_callSpecial?_slot (name := Str.ofString "__next__") hT F.slot_zip_next (wpAny_call_entry F.slot_zip_next hT F.entry_zip_next
      (zip_gives (S1 := TSrc i1 a ia.toArray i) (S2 := TSrc i2 b ib.toArray i) (T1 := TSrc i1 a ia.toArray (i + 1)) (T2 := TSrc i2 b ib.toArray (i + 1)) (x := ux) (y := uy) D Z ⟨h1, pa⟩ ⟨h2, pb⟩
        (tsrc_gives a1 (by simpa using hux)) (tsrc_gives b2 (by simpa using huy)) (tsrc_stb D.i1z az) (tsrc_stb D.i2z bz) (tsrc_stb D.i12.symm b1) (tsrc_stb D.TOi2.symm bO) (tsrc_stb D.i1z az) (tsrc_stb D.TOi1.symm aO) (tsrc_stb D.i12 a2) (tsrc_stb D.i2z bz) (tsrc_stb D.TOi2.symm bO)
        fun h' y1 y2 y3 y4 y5 hk => wpAny_pure ?_) (F.args_zip_next_1 _))))
    have hTH : H s.heap.objs.size = none := I.hok.fresh (Nat.le_refl _)
    generalize hTT : s.heap.objs.size = T at *
    refine ⟨_, rfl, ?_⟩
    refine wpAny_letOwnedTupleGo_zip y1 fun h2' hz' hs' => ?_
    have keep : ∀ c o, c ≠ z → c ≠ TO → c ≠ i1 → c ≠ i2 → s.heap.get? c = some o → h2'.get? c = some o := fun c o c1 c2 c3 c4 e => hs'.extBut _ _ c1 (hk c o c1 c2 c3 c4 e)
    have nT : ∀ c, c < T → T ≠ c := fun c hc z => absurd hc (by rw [z]; exact Nat.lt_irrefl _)
    have eT : IsPair h2' T ux uy := hs'.extBut _ _ (nT z zlt) y5
    have out : ∀ {d : Addr} {ls : List Addr}, d ∉ ls → ∀ e ∈ ls, d ≠ e := fun h e he q => h (q ▸ he)
    have J : Inv X pins σ (upd H T (.tup [x, y])) { s with heap := h2', toks := s.toks } := by
      refine I.step (g' := s.gens) (d' := s.drawn) (ch := [z, TO, i1, i2]) (fun c hc => ?_) (fun c o _ _ hc eo _ => ?_) (fun c o _ _ hc eo _ => ⟨o.slots, ?_⟩) (fun c o _ eo n => ?_)
        (fun c o hc eo => ⟨o, ?_⟩) (fun c xs q => ?_) (fun c o u q => ?_) (fun c ps q => ?_) (fun m hm => ?_) (fun c u q => ?_) I.bare
      · obtain ⟨f0, f1, f2, f3, f4, f5⟩ := hf c (by simp only [List.mem_cons, List.not_mem_nil, or_false] at hc ⊢; rcases hc with h | h | h | h <;> simp [h])
        exact ⟨f3, f1, f4, f5⟩
      · exact keep c o (out hc z (by simp)) (out hc TO (by simp)) (out hc i1 (by simp)) (out hc i2 (by simp)) eo
      · exact keep c o (out hc z (by simp)) (out hc TO (by simp)) (out hc i1 (by simp)) (out hc i2 (by simp)) eo
      · rw [upd_ne (Nat.ne_of_lt (hTT ▸ Heap.lt_size eo))]; exact n
      · exact keep c o (out hc z (by simp)) (out hc TO (by simp)) (out hc i1 (by simp)) (out hc i2 (by simp)) eo
      · rw [upd_ne (ne_of_none q hTH)]; exact q
      · rw [upd_ne (ne_of_none q hTH)]; exact q
      · exact ⟨#[], by rw [upd_ne (ne_of_none q hTH), q]; simp⟩
      · obtain ⟨o, es, ep, eo, r⟩ := hm
        exact ⟨o, es, ep, keep _ o (Ne.symm (hf z (by simp)).2.1) (Ne.symm (hf TO (by simp)).2.1) (Ne.symm (hf i1 (by simp)).2.1) (Ne.symm (hf i2 (by simp)).2.1) eo, r⟩
      · by_cases hb : c = T
        · subst hb
          rw [upd_same] at q
          cases q
          exact ⟨by show 2 ≤ sizeLine; decide, [ux, uy], .cons rux (.cons ruy .nil), ⟨_, eT, rfl, _, rfl⟩, _, eT, rfl⟩
        · rw [upd_ne hb] at q
          have ap : ∀ d ∈ [z, TI, TO, i1, i2], ∀ c', (c' = c ∨ H c' = some (.own c)) → c' ≠ d := fun d hd c' hc' e => by
            have f0 := (hf d hd).1
            subst e
            rcases hc' with rfl | hc'
            · rw [f0] at q; cases q
            · rw [f0] at hc'; cases hc'
          refine (I.hok c u q).stay (fun c' v hc' r => keep c' v (ap z (by simp) c' hc') (ap TO (by simp) c' hc') (ap i1 (by simp) c' hc') (ap i2 (by simp) c' hc') r) (fun c r => by rw [upd_ne (ne_of_none r hTH)]; exact r) fun c xs r => by rw [upd_ne (ne_of_none r hTH)]; exact r
    refine ⟨.ref T, _, J, rfl, ⟨T, x, y, rfl, hTH, fun zs hz => by rw [I.tuple_inj hz hqa]; exact hx, fun zs hz => by rw [I.tuple_inj hz hqb]; exact hy, rfl⟩, ⟨⟨_, _, hz', keep _ _ D.TIz D.TITO D.TIi1 D.TIi2 Z.2.1, hs'.extBut _ _ D.TOz y2⟩, y3.1.extBut hs'.extBut D.i1z, y4.1.extBut hs'.extBut D.i2z⟩, fun c hb => ?_⟩
    rw [upd_ne (fun e => ?_)]
    · exact (hf c hb).1
    · subst e
      simp only [List.mem_cons, List.not_mem_nil, or_false] at hb
      rcases hb with rfl | rfl | rfl | rfl | rfl
      · exact nT _ zlt rfl
      · exact nT _ TIlt rfl
      · exact nT _ TOlt rfl
      · exact nT _ i1lt rfl
      · exact nT _ i2lt rfl
  done := by
    intro X hP hw hK hc i pins s σ H E I hf st hg
    subst hP hw hK
    obtain ⟨xs, ys, hqa, hqb, hx⟩ := hg
    obtain ⟨ia, ra, pa, _⟩ := I.tuple hqa
    obtain ⟨ib, rb, pb, _⟩ := I.tuple hqb
    have la := ra.length
    have lb := rb.length
    obtain ⟨⟨u, v, Z⟩, h1, h2⟩ := id st
    have kz : ∃ o, s.heap.get? z = some o ∧ o.cls = .type "zip" := ⟨_, Z.1, rfl⟩
    have k1 : ∃ o, s.heap.get? i1 = some o ∧ o.cls = .type "tuple_iterator" := let ⟨o, e, c, _⟩ := h1; ⟨o, e, c⟩
    have k2 : ∃ o, s.heap.get? i2 = some o ∧ o.cls = .type "tuple_iterator" := let ⟨o, e, c, _⟩ := h2; ⟨o, e, c⟩
    obtain ⟨az, a1, a2⟩ := apartT (TI := TI) (TO := TO) pa kz k1 k2
    obtain ⟨bz, b1, b2⟩ := apartT (TI := TI) (TO := TO) pb kz k1 k2
    have hT : s.TypeIs (.ref z) "zip" := ⟨_, Z.1, rfl⟩
    have G : Runs X.prog X.w X.A.in1 i1 (TSrc i1 a ia.toArray i) ∨ (Gives X.prog X.w X.A.in1 i1 (TSrc i1 a ia.toArray i) (TSrc i1 a ia.toArray (i + 1)) (ia.toArray.getD i .none) ∧ Runs X.prog X.w X.A.in1 i2 (TSrc i2 b ib.toArray i)) := by
      by_cases hi : xs.length ≤ i
      · exact .inl (tsrc_runs (I.ok.hd hc) (by simp; omega))
      · have hj : ys.length ≤ i := by rcases hx with h | h; exact absurd h hi; exact h
        refine .inr ⟨tsrc_gives a1 ?_, tsrc_runs (I.ok.hd hc) (by simp; omega)⟩
        have : i < ia.length := by omega
        simp [this]
    unfold pyNext
    refine wpAny_bind (wpAny_attempt (wpAny_callSpecial?_slot (name := Str.ofString "__next__") hT F.slot_zip_next (wpAny_call_entry F.slot_zip_next hT F.entry_zip_next
      (zip_runs (S1 := TSrc i1 a ia.toArray i) (S2 := TSrc i2 b ib.toArray i) D Z ⟨h1, pa⟩ ⟨h2, pb⟩ (tsrc_stb D.i1z az) (tsrc_stb D.i2z bz) (tsrc_stb D.i12.symm b1) (tsrc_stb D.TOi2.symm bO) G fun h' e hk he => ?_) (F.args_zip_next_1 _))))
    obtain ⟨oe, eo, ec⟩ := he
    refine wpAny_bind (wpAny_isInstance (T := "StopIteration") (b := true) ⟨oe, eo, ec⟩ isSubtype_stop (wpAny_pure ⟨rfl, ?_⟩))
    show Inv X pins σ H { s with heap := h', toks := s.toks }
    have out : ∀ {d : Addr} {ls : List Addr}, d ∉ ls → ∀ e ∈ ls, d ≠ e := fun h e he q => h (q ▸ he)
    refine I.step (g' := s.gens) (d' := s.drawn) (ch := [z, TO, i1, i2]) (fun c hc => ?_) (fun c o _ _ hc eo _ => ?_) (fun c o _ _ hc eo _ => ⟨o.slots, ?_⟩) (fun c o _ eo n => n)
      (fun c o hc eo => ⟨o, ?_⟩) (fun c xs q => q) (fun c o u q => q) (fun c ps q => ⟨#[], by rw [q]; simp⟩) (fun m hm => ?_) (fun c u q => ?_) I.bare
    · obtain ⟨f0, f1, f2, f3, f4, f5⟩ := hf c (by simp only [List.mem_cons, List.not_mem_nil, or_false] at hc ⊢; rcases hc with h | h | h | h <;> simp [h])
      exact ⟨f3, f1, f4, f5⟩
    · exact hk c o (out hc z (by simp)) (out hc TO (by simp)) (out hc i1 (by simp)) (out hc i2 (by simp)) eo
    · exact hk c o (out hc z (by simp)) (out hc TO (by simp)) (out hc i1 (by simp)) (out hc i2 (by simp)) eo
    · exact hk c o (out hc z (by simp)) (out hc TO (by simp)) (out hc i1 (by simp)) (out hc i2 (by simp)) eo
    · obtain ⟨o, es, ep, eo, r⟩ := hm
      exact ⟨o, es, ep, hk _ o (Ne.symm (hf z (by simp)).2.1) (Ne.symm (hf TO (by simp)).2.1) (Ne.symm (hf i1 (by simp)).2.1) (Ne.symm (hf i2 (by simp)).2.1) eo, r⟩
    · have ap : ∀ d ∈ [z, TI, TO, i1, i2], ∀ c', (c' = c ∨ H c' = some (.own c)) → c' ≠ d := fun d hd c' hc' e => by
        have f0 := (hf d hd).1
        subst e
        rcases hc' with rfl | hc'
        · rw [f0] at q; cases q
        · rw [f0] at hc'; cases hc'
      exact (I.hok c u q).stay (fun c' v hc' r => hk c' v (ap z (by simp) c' hc') (ap TO (by simp) c' hc') (ap i1 (by simp) c' hc') (ap i2 (by simp) c' hc') r) (fun c r => r) fun c xs r => r
  self := fun A i s Q E st h => let ⟨_, _, Z⟩ := st.1; wpAny_pyIter_zip Z.1 h
noncomputable def iZipT (K : PySem.W.Frag) (ta : TA) : TI := fun σ H R => ta σ H fun vs H1 => ∃ a b, vs = [.ref a, .ref b] ∧ (∃ xs, SqT K H1 a xs) ∧ (∃ ys, SqT K H1 b ys) ∧ R (ItzT K a b) H1
theorem pi_zipT {X : Cx} {elts : List Expr} {k : Nat} {tp : Pos} {a b : Expr} {ta : TA} {p pos : Pos} (hg : Gl X "zip") (hm : X.mg "zip" = none) (ha : PA X [a, b] ta) (hs : starEach [a, b] X.env = [(false, eval a X.env), (false, eval b X.env)] := by rfl) (hs2 : starEach [b] X.env = [(false, eval b X.env)] := by rfl) :
    PI X (.Tuple elts k tp) (.Call (.Name "zip" p) [a, b] [] pos) (iZipT X.K ta) := by
  intro pins s σ H R I h
  refine Call_ (ld_blt I hg hm bt_zip (PyProof.Rows.callWith_type1 (thn (ha pos pins s σ H _ I h) fun us s1 ⟨vs, H1, I1, r1, q1⟩ => ?_) (by rw [hs, hs2]) (by rw [hs2]; rfl)))
  obtain ⟨x, y, e, ⟨xs, hqa⟩, ⟨ys, hqb⟩, q⟩ := q1
  subst e
  obtain ⟨u, u2, rfl, rx, ry⟩ := Vals.two r1
  obtain rfl : u = Value.ref x := rx
  obtain rfl : u2 = Value.ref y := ry
  obtain ⟨ia, ra, pa, _⟩ := I1.tuple hqa
  obtain ⟨ib, rb, pb, _⟩ := I1.tuple hqb
  have xl : x < s1.heap.objs.size := by obtain ⟨o, e, _⟩ := pa; exact Heap.lt_size e
  have yl : y < s1.heap.objs.size := by obtain ⟨o, e, _⟩ := pb; exact Heap.lt_size e
  refine call_zipT pa pb fun h' Z hi1 hi2 hk => ?_
  refine wpAny_pyIter_zip Z.1 ?_
  have I2 : Inv X pins σ H1 { s1 with heap := h', toks := s1.toks } := I1.kept hk
  have D : ZipD (s1.heap.objs.size + 4) (s1.heap.objs.size + 2) (s1.heap.objs.size + 3) s1.heap.objs.size (s1.heap.objs.size + 1) := ⟨nea (by omega), nea (by omega), nea (by omega), nea (by omega), nea (by omega), nea (by omega), nea (by omega), nea (by omega), nea (by omega), nea (by omega)⟩
  refine ⟨s1.heap.objs.size + 4, [s1.heap.objs.size + 4, s1.heap.objs.size + 2, s1.heap.objs.size + 3, s1.heap.objs.size, s1.heap.objs.size + 1], _, _, H1, rfl, I2, turn_zipT x y (s1.heap.objs.size + 4) (s1.heap.objs.size + 2) (s1.heap.objs.size + 3) s1.heap.objs.size (s1.heap.objs.size + 1) D (Nat.ne_of_lt (Nat.lt_of_lt_of_le xl (Nat.le_add_right _ 3))) (Nat.ne_of_lt (Nat.lt_of_lt_of_le yl (Nat.le_add_right _ 3))), ⟨⟨_, _, Z⟩, hi1, hi2⟩, fun c hb => ?_, q⟩
  have hc : s1.heap.objs.size ≤ c := by
    simp only [List.mem_cons, List.not_mem_nil, or_false] at hb
    rcases hb with rfl | rfl | rfl | rfl | rfl
    · exact Nat.le_add_right _ _
    · exact Nat.le_add_right _ _
    · exact Nat.le_add_right _ _
    · exact Nat.le_refl _
    · exact Nat.le_add_right _ _
  exact I1.fpOk hc (I1.hok.fresh hc)
section
variable {H : Hp} {K : PySem.W.Frag}
theorem k_pzipT (K : PySem.W.Frag) {X : Cx} {elts : List Expr} {k : Nat} {tp : Pos} {a b : Expr} {ta : TA} {p pos : Pos} (hg : Gl X "zip") (hm : X.mg "zip" = none) (ha : PA X [a, b] ta) (hs : starEach [a, b] X.env = [(false, eval a X.env), (false, eval b X.env)] := by rfl) (hs2 : starEach [b] X.env = [(false, eval b X.env)] := by rfl) (h : X.K = K := by rfl) :
    PI X (.Tuple elts k tp) (.Call (.Name "zip" p) [a, b] [] pos) (iZipT K ta) := h ▸ pi_zipT hg hm ha hs hs2
theorem rd_zipT {σ : St} {ta : TA} {R : It → Hp → Prop} (h : ta σ H fun vs H1 => ∃ a b, vs = [.ref a, .ref b] ∧ (∃ xs, SqT K H1 a xs) ∧ (∃ ys, SqT K H1 b ys) ∧ R (ItzT K a b) H1) : iZipT K ta σ H R := h
/-- of a tuple and of what stands behind its first one: as many turns as the second one has items -/
theorem lp_zipT {a b : Addr} {xs ys : List V} {G : List V → Hp → Prop} {B : (List V → Hp → Prop) → List V → V → Hp → Prop} (hn : ys.length ≤ sizeLine) (he : ys.length ≤ xs.length) (Pv : Nat → List V → Hp → Prop) (h0 : Pv 0 [] H) (hlen : ∀ i zs H, Pv i zs H → zs.length ≤ i)
    (hl : ∀ i zs H, i ≤ ys.length → Pv i zs H → SqT K H a xs ∧ SqT K H b ys) (hs : ∀ i x y zs H T, xs[i]? = some x → ys[i]? = some y → Pv i zs H → H T = none → B (Pv (i + 1)) zs (.ref T) (upd H T (.tup [x, y]))) (hd : ∀ zs H, Pv ys.length zs H → G zs H) :
    ∃ W : Nat → Nat → List V → Hp → Prop, (∃ m, W 0 m [] H) ∧ ∀ i m zs H, W i m zs H → ((ItzT K a b).stop i H ∧ G zs H) ∨ ((ItzT K a b).go i H ∧ zs.length < sizeLine ∧
      ∃ N : List V → Hp → Prop, (∀ zs' H', N zs' H' → ∃ m', m' < m ∧ W (i + 1) m' zs' H') ∧ ∀ x H', (ItzT K a b).yld i H x H' → B N zs x H') := by
  refine ⟨fun i m zs H => m = ys.length - i ∧ i ≤ ys.length ∧ Pv i zs H, ⟨ys.length, by simp, Nat.zero_le _, h0⟩, ?_⟩
  rintro i m zs H ⟨rfl, hi, p⟩
  have hly := hlen i zs H p
  obtain ⟨qa, qb⟩ := hl i zs H hi p
  by_cases hlt : i < ys.length
  · have hlt2 : i < xs.length := by omega
    refine .inr ⟨⟨xs, ys, xs[i], ys[i], qa, qb, by simp [hlt2], by simp [hlt]⟩, by omega, Pv (i + 1), fun zs' H' p' => ⟨ys.length - (i + 1), by omega, rfl, hlt, p'⟩, fun x H' y => ?_⟩
    obtain ⟨T, u, v, e, hT, hu, hv, e2⟩ := y
    subst e e2
    exact hs i u v zs _ T (hu xs qa) (hv ys qb) p hT
  · have e : i = ys.length := by omega
    subst e
    exact .inl ⟨⟨xs, ys, qa, qb, .inr (Nat.le_refl _)⟩, hd zs H p⟩
end
end L2

set_option Elab.async false
set_option linter.all false
set_option maxRecDepth 100000
set_option maxHeartbeats 1000000
namespace HT
open PySem PySem.Spec PyProof.Rows L2
/-! ### t[::-1] of a tuple -/
section
variable {prog : Program} {w : World} {A : Around} {E : Value → Shared → Prop} {s : Shared}
theorem adjust_rev (n : Nat) : Builtin.Slice.sliceAdjust none none (-1) (n : Int) = ((n : Int) - 1, -1) := by
  simp [Builtin.Slice.sliceAdjust]
theorem places_rev (n : Nat) : Builtin.Slice.slicePlaces ((n : Int) - 1) (-1) (-1) = n := by
  unfold Builtin.Slice.slicePlaces
  by_cases h : n = 0
  · subst h; decide
  · simp
    omega
theorem back_pick (its : List Value) : ((List.range its.length).filterMap fun (k : Nat) => its.toArray[((its.length : Int) - 1 + (k : Int) * (-1)).toNat]?) = its.reverse := by
  have e : (List.range its.length).filterMap (fun (k : Nat) => its.toArray[((its.length : Int) - 1 + (k : Int) * (-1)).toNat]?) = (List.range its.length).map fun k => its.getD (its.length - 1 - k) default := by
    have fm : ∀ l : List Nat, (∀ k ∈ l, k < its.length) → l.filterMap (fun (k : Nat) => its.toArray[((its.length : Int) - 1 + (k : Int) * (-1)).toNat]?) = l.map fun k => its.getD (its.length - 1 - k) default := fun l => by
      induction l with
      | nil => intro _; rfl
      | cons x l ih =>
        intro h
        have hx := h x List.mem_cons_self
        have ex : ((its.length : Int) - 1 + (x : Int) * (-1)).toNat = its.length - 1 - x := by omega
        have hy : its.length - 1 - x < its.length := by omega
        rw [List.filterMap_cons, List.map_cons, ih fun k hk => h k (List.mem_cons_of_mem _ hk), ex]
        simp [hy]
    exact fm _ fun k hk => List.mem_range.mp hk
  rw [e]
  refine List.ext_getElem? fun i => ?_
  rw [List.getElem?_map]
  by_cases hi : i < its.length
  · rw [List.getElem?_range hi, List.getElem?_reverse hi]
    have : its.length - 1 - i < its.length := by omega
    simp [this]
  · rw [List.getElem?_eq_none (by simp; omega), List.getElem?_eq_none (by simp; omega)]
    rfl
theorem getItem_tuple_back {t sl : Addr} {its : List Value} {vs : Value} {Q : Value → Shared → Prop} (ht : IsTup s.heap t its.toArray) (hs : s.heap.IsSliceOf sl .none .none vs) (ps : IsPart vs (some (-1)))
    (hsz : its.length ≤ sizeLine) (h : Q (.ref s.heap.objs.size) { s with heap := s.heap.push { cls := .type "tuple", data := .seq its.reverse.toArray } }) : wpAny (model prog w) A (getItem (.ref t) (.ref sl)) Q E s := by
  obtain ⟨os, hos, hcs, hds⟩ := id hs
  have hTs : s.TypeIs (.ref sl) "slice" := ⟨os, hos, hcs⟩
  have fits : sizeOk (.seq its.reverse.toArray) := by
    show its.reverse.toArray.size ≤ sizeLine
    rw [List.size_toArray, List.length_reverse]
    exact hsz
  unfold getItem
  try with_reducible refine wpAny_holding ?_
  first | refine wpAny_bind (wpAny_pure ?_) | skip
  refine wpAny_bind (wpAny_sequenceKey ht.typeIs (by decide) ?_)
  refine wpAny_bind (wpAny_callSpecial?_slot (name := Str.ofString "__getitem__") ht.typeIs PyProof.Rows.slot_tuple_getitem
    (wpAny_call_entry PyProof.Rows.slot_tuple_getitem ht.typeIs entry_tuple_getitem ?_ (args_tuple_getitem _ _)))
  show wpAny _ _ (Builtin.Tuple.tupleItemsOf (.ref t) >>= _) _ _ s
  refine wpAny_bind (tupleItemsOf_ ht (wpAny_bind (wpAny_typeOf hTs ?_)))
  rw [if_pos (by decide)]
  refine wpAny_bind ?_
  unfold Builtin.Slice.sliceApplied Builtin.Slice.sliceFields
  refine wpAny_bind (wpAny_bind (wpAny_field hos hds (x := .none) rfl (wpAny_bind (wpAny_field hos hds (x := .none) rfl (wpAny_bind (wpAny_field hos hds (x := vs) rfl (wpAny_pure ?_)))))))
  refine wpAny_bind (slicePart_ ps ?_)
  show wpAny _ _ (if ((-1 : Int) == 0) = true then _ else _) _ _ s
  rw [if_neg (by decide)]
  refine wpAny_bind (slicePart_none (wpAny_bind (slicePart_none (wpAny_bind (wpAny_pure ?_)))))
  show wpAny _ _ (match Builtin.Slice.sliceAdjust none none (-1) (its.toArray.size : Int) with | (lo, hi) => pure (lo, (-1 : Int), Builtin.Slice.slicePlaces lo hi (-1))) _ _ s
  rw [List.size_toArray, adjust_rev]
  show wpAny _ _ (pure ((its.length : Int) - 1, (-1 : Int), Builtin.Slice.slicePlaces ((its.length : Int) - 1) (-1) (-1))) _ _ s
  rw [places_rev]
  refine wpAny_pure ?_
  show wpAny _ _ (if ((((its.length : Int) - 1) == 0) && ((-1 : Int) == 1) && (its.length == its.toArray.size)) = true then _ else _) _ _ s
  rw [if_neg (by simp)]
  have e := congrArg List.toArray (back_pick its)
  show wpAny _ _ (Builtin.Tuple.tupleExact ((List.range its.length).filterMap fun (k : Nat) => its.toArray[((its.length : Int) - 1 + (k : Int) * (-1)).toNat]?).toArray >>= _) _ _ s
  rw [e]
  exact wpAny_bind (m := Builtin.Tuple.tupleExact _) (wpAny_newObj_type (wpAny_pure ⟨_, rfl, wpAny_pure h⟩) fits)
end
end HT
namespace L2
open PySem PySem.Spec PyProof.Rows
section
variable {X : Cx}
noncomputable def tRevT (K : PySem.W.Frag) (te : TE) : TE := fun σ H Q => te σ H fun x H1 => ∃ a xs, x = .ref a ∧ SqT K H1 a xs ∧ ∀ p, H1 p = none → Q (.ref p) (upd H1 p (.tup xs.reverse))
theorem pe_revT {e se : Expr} {te ts : TE} {p2 pos : Pos} (he : PE X e te) (hs : PE X se ts) (ht : ∀ σ H Q, Q (.int (-1)) H → ts σ H Q) : PE X (.Subscript e (.Slice none none (some se) p2) pos) (tRevT X.K te) := by
  intro pins s σ H Q I h
  refine Subscript_ (thn (he pins s σ H _ I h) fun v s1 ⟨x, H1, I1, r1, q1⟩ => ?_)
  obtain ⟨a, xs, rfl, hx, q⟩ := q1
  refine wpAny_Slice ?_
  rw [evalPart_none]
  refine wpAny_pure ?_
  refine wpAny_pure ?_
  have hpo := po_some hs pins s1 σ H1 (fun o H' => o = some (-1) ∧ H' = H1) I1 (ht σ H1 _ ⟨_, rfl, rfl, rfl⟩)
  refine thn hpo fun vs s3 ⟨o, H3, I3, ps, e1, e2⟩ => ?_
  subst e1 e2
  have I4 : Inv X pins σ H3 { s3 with heap := s3.heap.push { cls := .type "slice", data := .fields #[.none, .none, vs] } } := I3.kept (t' := s3.toks) fun b ob q => Heap.get?_push_of_some _ q
  cases r1
  obtain ⟨its, r, hl, hz⟩ := I4.tuple hx
  show wpAny (model X.prog X.w) X.A (subscriptTail e (.Slice none none (some se) p2) (.ref a) (.ref s3.heap.objs.size)) (EP X pins σ Q) X.xe { s3 with heap := s3.heap.push { cls := .type "slice", data := .fields #[.none, .none, vs] } }
  refine tail_any (ops := [.ref a, .ref s3.heap.objs.size]) hl.typeIs slot_tuple_getitem.lookup ?_ (by with_unfolding_all rfl)
  refine HT.getItem_tuple_back hl (Heap.IsSliceOf.new ..) ps (by rw [← r.length]; exact hz) ?_
  refine ⟨.ref _, _, I4.laid (t' := s3.toks) (o := .tup xs.reverse) (fun b ob q => Heap.get?_push_of_some _ q) (Nat.le_refl _) ?_, rfl, q _ (I4.hok.fresh (Nat.le_refl _))⟩
  exact ⟨by rw [List.length_reverse]; exact hz, _, r.reverse, IsTupN.new _ _⟩
theorem k_revT (K : PySem.W.Frag) {e se : Expr} {te ts : TE} {p2 pos : Pos} (he : PE X e te) (hs : PE X se ts) (ht : ∀ σ H Q, Q (.int (-1)) H → ts σ H Q) (h : X.K = K := by rfl) : PE X (.Subscript e (.Slice none none (some se) p2) pos) (tRevT K te) := h ▸ pe_revT he hs ht
theorem rd_revT {K : PySem.W.Frag} {σ : St} {H : Hp} {Q : VK} {te : TE} (h : te σ H fun x H1 => ∃ a xs, x = .ref a ∧ SqT K H1 a xs ∧ ∀ p, H1 p = none → Q (.ref p) (upd H1 p (.tup xs.reverse))) : tRevT K te σ H Q := h
end
end L2

set_option Elab.async false
set_option linter.all false
/-! Orders told by a least difference: the mathematics, over plain functions -/
namespace Nt
section
variable {n : Nat} {R : Nat → Nat → Prop}
/-- x tells R by s -/
noncomputable def Con (n : Nat) (R : Nat → Nat → Prop) (s : Int) (x : Nat → Int) : Prop := ∀ i j, i < n → j < n → (x j - x i ≥ s ↔ R i j)
/-- a tight path: k t: the t-th step is one of R's -/
structure TP (n : Nat) (R : Nat → Nat → Prop) (s : Int) (x : Nat → Int) (N : Nat) (v : Nat → Nat) (k : Nat → Bool) : Prop where
  lt : ∀ t, t ≤ N → v t < n
  st : x (v 0) = 0
  up : ∀ t, t < N → k t = true → R (v t) (v (t + 1)) ∧ x (v (t + 1)) = x (v t) + s
  dn : ∀ t, t < N → k t = false → ¬ R (v (t + 1)) (v t) ∧ x (v (t + 1)) = x (v t) + 1 - s
noncomputable def D (k : Nat → Bool) : Nat → Int
  | 0 => 0
  | t + 1 => D k t + (if k t = true then 1 else -1)
noncomputable def Mc (k : Nat → Bool) : Nat → Int
  | 0 => 0
  | t + 1 => Mc k t + (if k t = true then 0 else 1)
theorem TP.val {s : Int} {x : Nat → Int} {N : Nat} {v : Nat → Nat} {k : Nat → Bool} (p : TP n R s x N v k) : ∀ t, t ≤ N → x (v t) = D k t * s + Mc k t
  | 0, _ => by rw [p.st]; simp [D, Mc]
  | t + 1, h => by
    have ih := p.val t (by omega)
    simp only [D, Mc]
    cases hk : k t with
    | true =>
      rw [(p.up t (by omega) hk).2, ih, if_pos rfl, if_pos rfl, Int.add_mul]
      omega
    | false =>
      rw [(p.dn t (by omega) hk).2, ih, if_neg Bool.false_ne_true, if_neg Bool.false_ne_true, Int.add_mul]
      omega
/-- a path cut short between two places of the same number -/
theorem TP.cut {s : Int} {x : Nat → Int} (hx : Con n R s x) {N : Nat} {v : Nat → Nat} {k : Nat → Bool} (p : TP n R s x N v k) {a b : Nat} (hab : a < b) (hb : b ≤ N) (e : x (v a) = x (v b)) (hbN : b < N) :
    TP n R s x (N - (b - a)) (fun t => if t ≤ a then v t else v (t + (b - a))) (fun t => if t < a then k t else k (t + (b - a))) where
  lt := fun t ht => by
    by_cases h : t ≤ a
    · rw [if_pos h]; exact p.lt t (by omega)
    · rw [if_neg h]; exact p.lt _ (by omega)
  st := by rw [if_pos (Nat.zero_le _)]; exact p.st
  up := fun t ht hk => by
    by_cases h : t < a
    · rw [if_pos h] at hk
      rw [if_pos (by omega), if_pos (by omega)]
      exact p.up t (by omega) hk
    · rw [if_neg h] at hk
      have q := p.up (t + (b - a)) (by omega) hk
      rw [if_neg (by omega : ¬ t + 1 ≤ a)]
      have e1 : t + 1 + (b - a) = t + (b - a) + 1 := by omega
      rw [e1]
      by_cases h2 : t ≤ a
      · have ta : t = a := by omega
        subst ta
        rw [if_pos (Nat.le_refl _)]
        have eb : t + (b - t) = b := by omega
        rw [eb] at q ⊢
        refine ⟨?_, by rw [e]; exact q.2⟩
        exact (hx _ _ (p.lt t (by omega)) (p.lt _ (by omega))).mp (by rw [q.2, e]; omega)
      · rw [if_neg h2]; exact q
  dn := fun t ht hk => by
    by_cases h : t < a
    · rw [if_pos h] at hk
      rw [if_pos (by omega), if_pos (by omega)]
      exact p.dn t (by omega) hk
    · rw [if_neg h] at hk
      have q := p.dn (t + (b - a)) (by omega) hk
      rw [if_neg (by omega : ¬ t + 1 ≤ a)]
      have e1 : t + 1 + (b - a) = t + (b - a) + 1 := by omega
      rw [e1]
      by_cases h2 : t ≤ a
      · have ta : t = a := by omega
        subst ta
        rw [if_pos (Nat.le_refl _)]
        have eb : t + (b - t) = b := by omega
        rw [eb] at q ⊢
        refine ⟨fun hR => q.1 ?_, by rw [e]; exact q.2⟩
        have := (hx _ _ (p.lt _ (by omega)) (p.lt t (by omega))).mpr hR
        exact (hx _ _ (p.lt _ (by omega)) (p.lt b (by omega))).mp (by rw [e] at this; exact this)
      · rw [if_neg h2]; exact q
/-- from below to above by steps of one: met on the way -/
theorem met (f : Nat → Int) (c : Int) : ∀ m : Nat, f 0 < c → c ≤ f m → (∀ j, f (j + 1) ≤ f j + 1) → ∃ j, j ≤ m ∧ f j = c
  | 0, h1, h2, _ => by omega
  | m + 1, h1, h2, h3 => by
    by_cases h : c ≤ f m
    · obtain ⟨j, a, b⟩ := met f c m h1 h h3
      exact ⟨j, by omega, b⟩
    · have := h3 m
      exact ⟨m + 1, Nat.le_refl _, by omega⟩
theorem TP.end {s : Int} {x : Nat → Int} (hx : Con n R s x) {N : Nat} {v : Nat → Nat} {k : Nat → Bool} (p : TP n R s x N v k) {a : Nat} (ha : a < N) (e : x (v a) = x (v N)) :
    TP n R s x a (fun t => if t < a then v t else v N) k where
  lt := fun t ht => by
    show (if t < a then v t else v N) < n
    split
    · exact p.lt t (by omega)
    · exact p.lt N (Nat.le_refl _)
  st := by
    show x (if 0 < a then v 0 else v N) = 0
    split
    · exact p.st
    · have ea : a = 0 := by omega
      subst ea
      rw [← e]; exact p.st
  up := fun t ht hk => by
    show R (if t < a then v t else v N) (if t + 1 < a then v (t + 1) else v N) ∧ x (if t + 1 < a then v (t + 1) else v N) = x (if t < a then v t else v N) + s
    have q := p.up t (by omega) hk
    rw [if_pos ht]
    by_cases g : t + 1 < a
    · rw [if_pos g]; exact q
    · rw [if_neg g]
      have ea : t + 1 = a := by omega
      rw [ea, e] at q
      exact ⟨(hx _ _ (p.lt t (by omega)) (p.lt N (Nat.le_refl _))).mp (by omega), q.2⟩
  dn := fun t ht hk => by
    show ¬ R (if t + 1 < a then v (t + 1) else v N) (if t < a then v t else v N) ∧ x (if t + 1 < a then v (t + 1) else v N) = x (if t < a then v t else v N) + 1 - s
    have q := p.dn t (by omega) hk
    rw [if_pos ht]
    by_cases g : t + 1 < a
    · rw [if_pos g]; exact q
    · rw [if_neg g]
      have ea : t + 1 = a := by omega
      rw [ea, e] at q
      refine ⟨fun hR => ?_, q.2⟩
      have := (hx _ _ (p.lt N (Nat.le_refl _)) (p.lt t (by omega))).mpr hR
      omega
end
end Nt

set_option Elab.async false
set_option linter.all false
namespace Nt
section
variable {n : Nat} {R : Nat → Nat → Prop}
end
/-! a sum that is least -/
end Nt

set_option Elab.async false
set_option linter.all false
set_option maxRecDepth 100000
set_option maxHeartbeats 4000000
namespace My
open PySem L2
noncomputable def top (i : Nat) : Stmt := PySem.Challenge.pw_noticed_k01_orders.main.body.getD i (.Pass ⟨0, 0, 0, 0⟩)
noncomputable abbrev s_is_whole : Stmt := top 15
noncomputable abbrev s_is_thing : Stmt := top 16
noncomputable abbrev s_is_pair : Stmt := top 17
noncomputable abbrev s_is_rising : Stmt := top 18
noncomputable abbrev s_is_order : Stmt := top 19
noncomputable abbrev s_is_step : Stmt := top 20
noncomputable abbrev s_is_numbers : Stmt := top 21
noncomputable abbrev s_need_order : Stmt := top 22
noncomputable abbrev s_need_step : Stmt := top 23
noncomputable abbrev s_need_numbers : Stmt := top 24
noncomputable abbrev s_need_thing : Stmt := top 25
noncomputable abbrev s_told_pairs : Stmt := top 27
noncomputable abbrev s_told : Stmt := top 28
noncomputable abbrev s_fits : Stmt := top 29
noncomputable abbrev s_are_beside : Stmt := top 30
noncomputable abbrev s_beside : Stmt := top 31
noncomputable abbrev s_parts : Stmt := top 32
noncomputable abbrev s_parted : Stmt := top 33
noncomputable abbrev s_bars_as_two : Stmt := top 35
noncomputable abbrev s_bars_as_three : Stmt := top 36
noncomputable abbrev s_first_two : Stmt := top 37
noncomputable abbrev s_first_three : Stmt := top 38
noncomputable abbrev s_bar : Stmt := top 39
noncomputable abbrev s_need_unbarred : Stmt := top 40
noncomputable abbrev s_has_form : Stmt := top 41
noncomputable abbrev s_is_bar : Stmt := top 42
noncomputable abbrev s_demand : Stmt := top 44
noncomputable abbrev s_all_demands : Stmt := top 45
noncomputable abbrev s_raise_once : Stmt := top 46
noncomputable abbrev s_raise_all : Stmt := top 47
noncomputable abbrev s_least_values : Stmt := top 48
noncomputable abbrev s_round_behind : Stmt := top 49
noncomputable abbrev s_things_in_round : Stmt := top 50
noncomputable abbrev s_numbers : Stmt := top 51
noncomputable abbrev s_round_of : Stmt := top 52
noncomputable abbrev s_are_unlike_things : Stmt := top 53
noncomputable abbrev s_come_above_nothing : Stmt := top 54
noncomputable abbrev s_is_round : Stmt := top 55
noncomputable abbrev s_least : Stmt := top 56
noncomputable abbrev s_least_step : Stmt := top 57
noncomputable abbrev s_height : Stmt := top 59
noncomputable abbrev s_things_at : Stmt := top 60
noncomputable abbrev s_row : Stmt := top 61
noncomputable abbrev s_longest : Stmt := top 62
noncomputable abbrev s__law_cell_at : Stmt := top 64
noncomputable abbrev s__law_mixed : Stmt := top 65
noncomputable abbrev s__law_draw : Stmt := top 66
noncomputable abbrev s__law_pick : Stmt := top 67
noncomputable abbrev s__law_by : Stmt := top 68
noncomputable abbrev s__law_order : Stmt := top 69
noncomputable abbrev s__law_which : Stmt := top 70
noncomputable abbrev s__law_ask : Stmt := top 71
noncomputable abbrev s__law_whole : Stmt := top 72
noncomputable abbrev s__law_is_order : Stmt := top 73
noncomputable abbrev s__law_spoilt : Stmt := top 74
noncomputable abbrev s__law_refusals : Stmt := top 75
noncomputable abbrev s_law : Stmt := top 76
theorem sc_is_whole : FnScope ["value", "low", "high"] ["value", "low", "high"] (defScope s_is_whole) := ⟨rfl, rfl, rfl, by decide +kernel, rfl, by decide +kernel, by decide +kernel⟩
theorem sc_is_thing : FnScope ["value", "many"] ["value", "many"] (defScope s_is_thing) := ⟨rfl, rfl, rfl, by decide +kernel, rfl, by decide +kernel, by decide +kernel⟩
theorem sc_is_pair : FnScope ["value", "many"] ["value", "many"] (defScope s_is_pair) := ⟨rfl, rfl, rfl, by decide +kernel, rfl, by decide +kernel, by decide +kernel⟩
theorem sc_is_rising : FnScope ["pairs"] ["pairs"] (defScope s_is_rising) := ⟨rfl, rfl, rfl, by decide +kernel, rfl, by decide +kernel, by decide +kernel⟩
theorem sc_is_order : FnScope ["value", "many", "pairs"] ["value"] (defScope s_is_order) := ⟨rfl, rfl, rfl, by decide +kernel, rfl, by decide +kernel, by decide +kernel⟩
theorem sc_is_step : FnScope ["value"] ["value"] (defScope s_is_step) := ⟨rfl, rfl, rfl, by decide +kernel, rfl, by decide +kernel, by decide +kernel⟩
theorem sc_is_numbers : FnScope ["value", "fewest", "most"] ["value", "fewest", "most"] (defScope s_is_numbers) := ⟨rfl, rfl, rfl, by decide +kernel, rfl, by decide +kernel, by decide +kernel⟩
theorem sc_need_order : FnScope ["value"] ["value"] (defScope s_need_order) := ⟨rfl, rfl, rfl, by decide +kernel, rfl, by decide +kernel, by decide +kernel⟩
theorem sc_need_step : FnScope ["value"] ["value"] (defScope s_need_step) := ⟨rfl, rfl, rfl, by decide +kernel, rfl, by decide +kernel, by decide +kernel⟩
theorem sc_need_numbers : FnScope ["value", "fewest", "most"] ["value", "fewest", "most"] (defScope s_need_numbers) := ⟨rfl, rfl, rfl, by decide +kernel, rfl, by decide +kernel, by decide +kernel⟩
theorem sc_need_thing : FnScope ["value", "many"] ["value", "many"] (defScope s_need_thing) := ⟨rfl, rfl, rfl, by decide +kernel, rfl, by decide +kernel, by decide +kernel⟩
theorem sc_told_pairs : FnScope ["step", "numbers", "pairs", "one", "other"] ["step", "numbers"] (defScope s_told_pairs) := ⟨rfl, rfl, rfl, by decide +kernel, rfl, by decide +kernel, by decide +kernel⟩
theorem sc_told : FnScope ["step", "numbers"] ["step", "numbers"] (defScope s_told) := ⟨rfl, rfl, rfl, by decide +kernel, rfl, by decide +kernel, by decide +kernel⟩
theorem sc_fits : FnScope ["order", "step", "numbers"] ["order", "step", "numbers"] (defScope s_fits) := ⟨rfl, rfl, rfl, by decide +kernel, rfl, by decide +kernel, by decide +kernel⟩
theorem sc_are_beside : FnScope ["pairs", "one", "other"] ["pairs", "one", "other"] (defScope s_are_beside) := ⟨rfl, rfl, rfl, by decide +kernel, rfl, by decide +kernel, by decide +kernel⟩
theorem sc_beside : FnScope ["order", "thing"] ["order", "thing"] (defScope s_beside) := ⟨rfl, rfl, rfl, by decide +kernel, rfl, by decide +kernel, by decide +kernel⟩
theorem sc_parts : FnScope ["pairs", "thing", "one", "other"] ["pairs", "thing", "one", "other"] (defScope s_parts) := ⟨rfl, rfl, rfl, by decide +kernel, rfl, by decide +kernel, by decide +kernel⟩
theorem sc_parted : FnScope ["order", "one", "other", "thing"] ["order", "one", "other"] (defScope s_parted) := ⟨rfl, rfl, rfl, by decide +kernel, rfl, by decide +kernel, by decide +kernel⟩
theorem sc_bar : FnScope ["order", "found"] ["order"] (defScope s_bar) := ⟨rfl, rfl, rfl, by decide +kernel, rfl, by decide +kernel, by decide +kernel⟩
theorem sc_need_unbarred : FnScope ["order"] ["order"] (defScope s_need_unbarred) := ⟨rfl, rfl, rfl, by decide +kernel, rfl, by decide +kernel, by decide +kernel⟩
theorem sc_is_bar : FnScope ["order", "thing"] ["order", "thing"] (defScope s_is_bar) := ⟨rfl, rfl, rfl, by decide +kernel, rfl, by decide +kernel, by decide +kernel⟩
theorem sc_numbers : FnScope ["order", "step"] ["order", "step"] (defScope s_numbers) := ⟨rfl, rfl, rfl, by decide +kernel, rfl, by decide +kernel, by decide +kernel⟩
theorem sc_round_of : FnScope ["order", "step"] ["order", "step"] (defScope s_round_of) := ⟨rfl, rfl, rfl, by decide +kernel, rfl, by decide +kernel, by decide +kernel⟩
theorem sc_is_round : FnScope ["order", "step", "thing", "demands"] ["order", "step", "thing"] (defScope s_is_round) := ⟨rfl, rfl, rfl, by decide +kernel, rfl, by decide +kernel, by decide +kernel⟩
theorem sc_least : FnScope ["order", "step", "found"] ["order"] (defScope s_least) := ⟨rfl, rfl, rfl, by decide +kernel, rfl, by decide +kernel, by decide +kernel⟩
theorem sc_least_step : FnScope ["order"] ["order"] (defScope s_least_step) := ⟨rfl, rfl, rfl, by decide +kernel, rfl, by decide +kernel, by decide +kernel⟩
theorem sc_row : FnScope ["order", "heights"] ["order"] (defScope s_row) := ⟨rfl, rfl, rfl, by decide +kernel, rfl, by decide +kernel, by decide +kernel⟩
theorem sc_longest : FnScope ["order", "lengths", "things", "thing", "ahead"] ["order"] (defScope s_longest) := ⟨rfl, rfl, rfl, by decide +kernel, rfl, by decide +kernel, by decide +kernel⟩
theorem sc__law_cell_at : FnScope ["_law_script", "_law_k"] ["_law_script", "_law_k"] (defScope s__law_cell_at) := ⟨rfl, rfl, rfl, by decide +kernel, rfl, by decide +kernel, by decide +kernel⟩
theorem sc__law_mixed : FnScope ["_law_script", "_law_k", "_law_many", "_law_drawn"] ["_law_script", "_law_k", "_law_many"] (defScope s__law_mixed) := ⟨rfl, rfl, rfl, by decide +kernel, rfl, by decide +kernel, by decide +kernel⟩
theorem sc__law_draw : FnScope ["_law_script", "_law_town", "_law_many"] ["_law_script", "_law_town", "_law_many"] (defScope s__law_draw) := ⟨rfl, rfl, rfl, by decide +kernel, rfl, by decide +kernel, by decide +kernel⟩
theorem sc__law_pick : FnScope ["_law_script", "_law_town", "_law_some"] ["_law_script", "_law_town", "_law_some"] (defScope s__law_pick) := ⟨rfl, rfl, rfl, by decide +kernel, rfl, by decide +kernel, by decide +kernel⟩
theorem sc__law_by : FnScope ["_law_step", "_law_longs", "_law_pairs", "_law_one", "_law_other"] ["_law_step", "_law_longs"] (defScope s__law_by) := ⟨rfl, rfl, rfl, by decide +kernel, rfl, by decide +kernel, by decide +kernel⟩
theorem sc__law_order : FnScope ["_law_script", "_law_town", "_law_most", "_law_many", "_law_k", "_law_longs", "_law_order_here", "_law_pairs", "_law_one", "_law_other"] ["_law_script", "_law_town", "_law_most"] (defScope s__law_order) := ⟨rfl, rfl, rfl, by decide +kernel, rfl, by decide +kernel, by decide +kernel⟩
theorem sc__law_which : FnScope ["_law_e", "_law_own"] ["_law_e"] (defScope s__law_which) := ⟨rfl, rfl, rfl, by decide +kernel, rfl, by decide +kernel, by decide +kernel⟩
theorem sc__law_ask : FnScope ["_law_what", "_law_order_here", "_law_one", "_law_other", "_law_e"] ["_law_what", "_law_order_here", "_law_one", "_law_other"] (defScope s__law_ask) := ⟨rfl, rfl, rfl, by decide +kernel, rfl, by decide +kernel, by decide +kernel⟩
theorem sc__law_whole : FnScope ["_law_thing", "_law_low", "_law_most"] ["_law_thing", "_law_low", "_law_most"] (defScope s__law_whole) := ⟨rfl, rfl, rfl, by decide +kernel, rfl, by decide +kernel, by decide +kernel⟩
theorem sc__law_is_order : FnScope ["_law_thing", "_law_pair"] ["_law_thing"] (defScope s__law_is_order) := ⟨rfl, rfl, rfl, by decide +kernel, rfl, by decide +kernel, by decide +kernel⟩
theorem sc__law_spoilt : FnScope ["_law_script", "_law_town", "_law_thing", "_law_kind", "_law_at"] ["_law_script", "_law_town", "_law_thing"] (defScope s__law_spoilt) := ⟨rfl, rfl, rfl, by decide +kernel, rfl, by decide +kernel, by decide +kernel⟩
theorem sc__law_refusals : FnScope ["_law_script", "_law_town", "_law_order_here", "_law_step", "_law_longs", "_law_odd", "_law_bad"] ["_law_script", "_law_town", "_law_order_here", "_law_step", "_law_longs"] (defScope s__law_refusals) := ⟨rfl, rfl, rfl, by decide +kernel, rfl, by decide +kernel, by decide +kernel⟩
theorem sc_law : FnScope ["_law_script", "_law_town", "_law_order_here", "_law_bad", "_law_k", "_law_one", "_law_other", "_law_third", "_law_near", "_law_rows", "_law_here", "_law_step", "_law_longs"] ["_law_script"] (defScope s_law) := ⟨rfl, rfl, rfl, by decide +kernel, rfl, by decide +kernel, by decide +kernel⟩
set_option genSizeOf false in
set_option genInjectivity false in
structure Ad where
  a_is_whole : Addr
  d_is_whole : FuncData
  a_is_thing : Addr
  d_is_thing : FuncData
  a_is_pair : Addr
  d_is_pair : FuncData
  a_is_rising : Addr
  d_is_rising : FuncData
  a_is_order : Addr
  d_is_order : FuncData
  a_is_step : Addr
  d_is_step : FuncData
  a_is_numbers : Addr
  d_is_numbers : FuncData
  a_need_order : Addr
  d_need_order : FuncData
  a_need_step : Addr
  d_need_step : FuncData
  a_need_numbers : Addr
  d_need_numbers : FuncData
  a_need_thing : Addr
  d_need_thing : FuncData
  a_told_pairs : Addr
  d_told_pairs : FuncData
  a_told : Addr
  d_told : FuncData
  a_fits : Addr
  d_fits : FuncData
  a_are_beside : Addr
  d_are_beside : FuncData
  a_beside : Addr
  d_beside : FuncData
  a_parts : Addr
  d_parts : FuncData
  a_parted : Addr
  d_parted : FuncData
  a_bars_as_two : Addr
  d_bars_as_two : FuncData
  a_bars_as_three : Addr
  d_bars_as_three : FuncData
  a_first_two : Addr
  d_first_two : FuncData
  a_first_three : Addr
  d_first_three : FuncData
  a_bar : Addr
  d_bar : FuncData
  a_need_unbarred : Addr
  d_need_unbarred : FuncData
  a_has_form : Addr
  d_has_form : FuncData
  a_is_bar : Addr
  d_is_bar : FuncData
  a_demand : Addr
  d_demand : FuncData
  a_all_demands : Addr
  d_all_demands : FuncData
  a_raise_once : Addr
  d_raise_once : FuncData
  a_raise_all : Addr
  d_raise_all : FuncData
  a_least_values : Addr
  d_least_values : FuncData
  a_round_behind : Addr
  d_round_behind : FuncData
  a_things_in_round : Addr
  d_things_in_round : FuncData
  a_numbers : Addr
  d_numbers : FuncData
  a_round_of : Addr
  d_round_of : FuncData
  a_are_unlike_things : Addr
  d_are_unlike_things : FuncData
  a_come_above_nothing : Addr
  d_come_above_nothing : FuncData
  a_is_round : Addr
  d_is_round : FuncData
  a_least : Addr
  d_least : FuncData
  a_least_step : Addr
  d_least_step : FuncData
  a_height : Addr
  d_height : FuncData
  a_things_at : Addr
  d_things_at : FuncData
  a_row : Addr
  d_row : FuncData
  a_longest : Addr
  d_longest : FuncData
  a__law_cell_at : Addr
  d__law_cell_at : FuncData
  a__law_mixed : Addr
  d__law_mixed : FuncData
  a__law_draw : Addr
  d__law_draw : FuncData
  a__law_pick : Addr
  d__law_pick : FuncData
  a__law_by : Addr
  d__law_by : FuncData
  a__law_order : Addr
  d__law_order : FuncData
  a__law_which : Addr
  d__law_which : FuncData
  a__law_ask : Addr
  d__law_ask : FuncData
  a__law_whole : Addr
  d__law_whole : FuncData
  a__law_is_order : Addr
  d__law_is_order : FuncData
  a__law_spoilt : Addr
  d__law_spoilt : FuncData
  a__law_refusals : Addr
  d__law_refusals : FuncData
  a_law : Addr
  d_law : FuncData
  c_Barred : Addr
  c_Full : Addr
  c_NoCount : Addr
  c_NoNumbers : Addr
  c_NoOrder : Addr
  c_NoStep : Addr
  c_NoTelling : Addr
  c_NoThing : Addr
  c_Nothing : Addr
  c_OrderError : Addr
structure Txt (K : PySem.W.Frag) (mg : Str → Option Value) (t : Ad) : Prop where
  m_is_whole : mg "is_whole" = some (.ref t.a_is_whole)
  F_is_whole : Fun K "is_whole" "is_whole" s_is_whole t.a_is_whole t.d_is_whole
  b_is_whole : Binds K t.d_is_whole ["value", "low", "high"] []
  m_is_thing : mg "is_thing" = some (.ref t.a_is_thing)
  F_is_thing : Fun K "is_thing" "is_thing" s_is_thing t.a_is_thing t.d_is_thing
  b_is_thing : Binds K t.d_is_thing ["value", "many"] []
  m_is_pair : mg "is_pair" = some (.ref t.a_is_pair)
  F_is_pair : Fun K "is_pair" "is_pair" s_is_pair t.a_is_pair t.d_is_pair
  b_is_pair : Binds K t.d_is_pair ["value", "many"] []
  m_is_rising : mg "is_rising" = some (.ref t.a_is_rising)
  F_is_rising : Fun K "is_rising" "is_rising" s_is_rising t.a_is_rising t.d_is_rising
  b_is_rising : Binds K t.d_is_rising ["pairs"] []
  m_is_order : mg "is_order" = some (.ref t.a_is_order)
  F_is_order : Fun K "is_order" "is_order" s_is_order t.a_is_order t.d_is_order
  b_is_order : Binds K t.d_is_order ["value"] []
  m_is_step : mg "is_step" = some (.ref t.a_is_step)
  F_is_step : Fun K "is_step" "is_step" s_is_step t.a_is_step t.d_is_step
  b_is_step : Binds K t.d_is_step ["value"] []
  m_is_numbers : mg "is_numbers" = some (.ref t.a_is_numbers)
  F_is_numbers : Fun K "is_numbers" "is_numbers" s_is_numbers t.a_is_numbers t.d_is_numbers
  b_is_numbers : Binds K t.d_is_numbers ["value", "fewest", "most"] []
  m_need_order : mg "need_order" = some (.ref t.a_need_order)
  F_need_order : Fun K "need_order" "need_order" s_need_order t.a_need_order t.d_need_order
  b_need_order : Binds K t.d_need_order ["value"] []
  m_need_step : mg "need_step" = some (.ref t.a_need_step)
  F_need_step : Fun K "need_step" "need_step" s_need_step t.a_need_step t.d_need_step
  b_need_step : Binds K t.d_need_step ["value"] []
  m_need_numbers : mg "need_numbers" = some (.ref t.a_need_numbers)
  F_need_numbers : Fun K "need_numbers" "need_numbers" s_need_numbers t.a_need_numbers t.d_need_numbers
  b_need_numbers : Binds K t.d_need_numbers ["value", "fewest", "most"] []
  m_need_thing : mg "need_thing" = some (.ref t.a_need_thing)
  F_need_thing : Fun K "need_thing" "need_thing" s_need_thing t.a_need_thing t.d_need_thing
  b_need_thing : Binds K t.d_need_thing ["value", "many"] []
  m_told_pairs : mg "told_pairs" = some (.ref t.a_told_pairs)
  F_told_pairs : Fun K "told_pairs" "told_pairs" s_told_pairs t.a_told_pairs t.d_told_pairs
  b_told_pairs : Binds K t.d_told_pairs ["step", "numbers"] []
  m_told : mg "told" = some (.ref t.a_told)
  F_told : Fun K "told" "told" s_told t.a_told t.d_told
  b_told : Binds K t.d_told ["step", "numbers"] []
  m_fits : mg "fits" = some (.ref t.a_fits)
  F_fits : Fun K "fits" "fits" s_fits t.a_fits t.d_fits
  b_fits : Binds K t.d_fits ["order", "step", "numbers"] []
  m_are_beside : mg "are_beside" = some (.ref t.a_are_beside)
  F_are_beside : Fun K "are_beside" "are_beside" s_are_beside t.a_are_beside t.d_are_beside
  b_are_beside : Binds K t.d_are_beside ["pairs", "one", "other"] []
  m_beside : mg "beside" = some (.ref t.a_beside)
  F_beside : Fun K "beside" "beside" s_beside t.a_beside t.d_beside
  b_beside : Binds K t.d_beside ["order", "thing"] []
  m_parts : mg "parts" = some (.ref t.a_parts)
  F_parts : Fun K "parts" "parts" s_parts t.a_parts t.d_parts
  b_parts : Binds K t.d_parts ["pairs", "thing", "one", "other"] []
  m_parted : mg "parted" = some (.ref t.a_parted)
  F_parted : Fun K "parted" "parted" s_parted t.a_parted t.d_parted
  b_parted : Binds K t.d_parted ["order", "one", "other"] []
  m_bars_as_two : mg "bars_as_two" = some (.ref t.a_bars_as_two)
  F_bars_as_two : Fun K "bars_as_two" "bars_as_two" s_bars_as_two t.a_bars_as_two t.d_bars_as_two
  b_bars_as_two : Binds K t.d_bars_as_two ["pairs", "a", "b", "c", "d"] []
  m_bars_as_three : mg "bars_as_three" = some (.ref t.a_bars_as_three)
  F_bars_as_three : Fun K "bars_as_three" "bars_as_three" s_bars_as_three t.a_bars_as_three t.d_bars_as_three
  b_bars_as_three : Binds K t.d_bars_as_three ["pairs", "a", "b", "c", "d"] []
  m_first_two : mg "first_two" = some (.ref t.a_first_two)
  F_first_two : Fun K "first_two" "first_two" s_first_two t.a_first_two t.d_first_two
  b_first_two : Binds K t.d_first_two ["pairs"] []
  m_first_three : mg "first_three" = some (.ref t.a_first_three)
  F_first_three : Fun K "first_three" "first_three" s_first_three t.a_first_three t.d_first_three
  b_first_three : Binds K t.d_first_three ["many", "pairs"] []
  m_bar : mg "bar" = some (.ref t.a_bar)
  F_bar : Fun K "bar" "bar" s_bar t.a_bar t.d_bar
  b_bar : Binds K t.d_bar ["order"] []
  m_need_unbarred : mg "need_unbarred" = some (.ref t.a_need_unbarred)
  F_need_unbarred : Fun K "need_unbarred" "need_unbarred" s_need_unbarred t.a_need_unbarred t.d_need_unbarred
  b_need_unbarred : Binds K t.d_need_unbarred ["order"] []
  m_has_form : mg "has_form" = some (.ref t.a_has_form)
  F_has_form : Fun K "has_form" "has_form" s_has_form t.a_has_form t.d_has_form
  b_has_form : Binds K t.d_has_form ["thing", "many"] []
  m_is_bar : mg "is_bar" = some (.ref t.a_is_bar)
  F_is_bar : Fun K "is_bar" "is_bar" s_is_bar t.a_is_bar t.d_is_bar
  b_is_bar : Binds K t.d_is_bar ["order", "thing"] []
  m_demand : mg "demand" = some (.ref t.a_demand)
  F_demand : Fun K "demand" "demand" s_demand t.a_demand t.d_demand
  b_demand : Binds K t.d_demand ["pairs", "step", "one", "other"] []
  m_all_demands : mg "all_demands" = some (.ref t.a_all_demands)
  F_all_demands : Fun K "all_demands" "all_demands" s_all_demands t.a_all_demands t.d_all_demands
  b_all_demands : Binds K t.d_all_demands ["order", "step"] []
  m_raise_once : mg "raise_once" = some (.ref t.a_raise_once)
  F_raise_once : Fun K "raise_once" "raise_once" s_raise_once t.a_raise_once t.d_raise_once
  b_raise_once : Binds K t.d_raise_once ["demands", "values", "origins"] []
  m_raise_all : mg "raise_all" = some (.ref t.a_raise_all)
  F_raise_all : Fun K "raise_all" "raise_all" s_raise_all t.a_raise_all t.d_raise_all
  b_raise_all : Binds K t.d_raise_all ["demands", "values", "origins"] []
  m_least_values : mg "least_values" = some (.ref t.a_least_values)
  F_least_values : Fun K "least_values" "least_values" s_least_values t.a_least_values t.d_least_values
  b_least_values : Binds K t.d_least_values ["many", "demands"] []
  m_round_behind : mg "round_behind" = some (.ref t.a_round_behind)
  F_round_behind : Fun K "round_behind" "round_behind" s_round_behind t.a_round_behind t.d_round_behind
  b_round_behind : Binds K t.d_round_behind ["origins", "raised"] []
  m_things_in_round : mg "things_in_round" = some (.ref t.a_things_in_round)
  F_things_in_round : Fun K "things_in_round" "things_in_round" s_things_in_round t.a_things_in_round t.d_things_in_round
  b_things_in_round : Binds K t.d_things_in_round ["many", "demands"] []
  m_numbers : mg "numbers" = some (.ref t.a_numbers)
  F_numbers : Fun K "numbers" "numbers" s_numbers t.a_numbers t.d_numbers
  b_numbers : Binds K t.d_numbers ["order", "step"] []
  m_round_of : mg "round_of" = some (.ref t.a_round_of)
  F_round_of : Fun K "round_of" "round_of" s_round_of t.a_round_of t.d_round_of
  b_round_of : Binds K t.d_round_of ["order", "step"] []
  m_are_unlike_things : mg "are_unlike_things" = some (.ref t.a_are_unlike_things)
  F_are_unlike_things : Fun K "are_unlike_things" "are_unlike_things" s_are_unlike_things t.a_are_unlike_things t.d_are_unlike_things
  b_are_unlike_things : Binds K t.d_are_unlike_things ["value", "many"] []
  m_come_above_nothing : mg "come_above_nothing" = some (.ref t.a_come_above_nothing)
  F_come_above_nothing : Fun K "come_above_nothing" "come_above_nothing" s_come_above_nothing t.a_come_above_nothing t.d_come_above_nothing
  b_come_above_nothing : Binds K t.d_come_above_nothing ["demands"] []
  m_is_round : mg "is_round" = some (.ref t.a_is_round)
  F_is_round : Fun K "is_round" "is_round" s_is_round t.a_is_round t.d_is_round
  b_is_round : Binds K t.d_is_round ["order", "step", "thing"] []
  m_least : mg "least" = some (.ref t.a_least)
  F_least : Fun K "least" "least" s_least t.a_least t.d_least
  b_least : Binds K t.d_least ["order"] []
  m_least_step : mg "least_step" = some (.ref t.a_least_step)
  F_least_step : Fun K "least_step" "least_step" s_least_step t.a_least_step t.d_least_step
  b_least_step : Binds K t.d_least_step ["order"] []
  m_height : mg "height" = some (.ref t.a_height)
  F_height : Fun K "height" "height" s_height t.a_height t.d_height
  b_height : Binds K t.d_height ["pairs", "thing"] []
  m_things_at : mg "things_at" = some (.ref t.a_things_at)
  F_things_at : Fun K "things_at" "things_at" s_things_at t.a_things_at t.d_things_at
  b_things_at : Binds K t.d_things_at ["heights", "level"] []
  m_row : mg "row" = some (.ref t.a_row)
  F_row : Fun K "row" "row" s_row t.a_row t.d_row
  b_row : Binds K t.d_row ["order"] []
  m_longest : mg "longest" = some (.ref t.a_longest)
  F_longest : Fun K "longest" "longest" s_longest t.a_longest t.d_longest
  b_longest : Binds K t.d_longest ["order"] []
  m__law_cell_at : mg "_law_cell_at" = some (.ref t.a__law_cell_at)
  F__law_cell_at : Fun K "_law_cell_at" "_law_cell_at" s__law_cell_at t.a__law_cell_at t.d__law_cell_at
  b__law_cell_at : Binds K t.d__law_cell_at ["_law_script", "_law_k"] []
  m__law_mixed : mg "_law_mixed" = some (.ref t.a__law_mixed)
  F__law_mixed : Fun K "_law_mixed" "_law_mixed" s__law_mixed t.a__law_mixed t.d__law_mixed
  b__law_mixed : Binds K t.d__law_mixed ["_law_script", "_law_k", "_law_many"] []
  m__law_draw : mg "_law_draw" = some (.ref t.a__law_draw)
  F__law_draw : Fun K "_law_draw" "_law_draw" s__law_draw t.a__law_draw t.d__law_draw
  b__law_draw : Binds K t.d__law_draw ["_law_script", "_law_town", "_law_many"] []
  m__law_pick : mg "_law_pick" = some (.ref t.a__law_pick)
  F__law_pick : Fun K "_law_pick" "_law_pick" s__law_pick t.a__law_pick t.d__law_pick
  b__law_pick : Binds K t.d__law_pick ["_law_script", "_law_town", "_law_some"] []
  m__law_by : mg "_law_by" = some (.ref t.a__law_by)
  F__law_by : Fun K "_law_by" "_law_by" s__law_by t.a__law_by t.d__law_by
  b__law_by : Binds K t.d__law_by ["_law_step", "_law_longs"] []
  m__law_order : mg "_law_order" = some (.ref t.a__law_order)
  F__law_order : Fun K "_law_order" "_law_order" s__law_order t.a__law_order t.d__law_order
  b__law_order : Binds K t.d__law_order ["_law_script", "_law_town", "_law_most"] []
  m__law_which : mg "_law_which" = some (.ref t.a__law_which)
  F__law_which : Fun K "_law_which" "_law_which" s__law_which t.a__law_which t.d__law_which
  b__law_which : Binds K t.d__law_which ["_law_e"] []
  m__law_ask : mg "_law_ask" = some (.ref t.a__law_ask)
  F__law_ask : Fun K "_law_ask" "_law_ask" s__law_ask t.a__law_ask t.d__law_ask
  b__law_ask : Binds K t.d__law_ask ["_law_what", "_law_order_here", "_law_one", "_law_other"] []
  m__law_whole : mg "_law_whole" = some (.ref t.a__law_whole)
  F__law_whole : Fun K "_law_whole" "_law_whole" s__law_whole t.a__law_whole t.d__law_whole
  b__law_whole : Binds K t.d__law_whole ["_law_thing", "_law_low", "_law_most"] []
  m__law_is_order : mg "_law_is_order" = some (.ref t.a__law_is_order)
  F__law_is_order : Fun K "_law_is_order" "_law_is_order" s__law_is_order t.a__law_is_order t.d__law_is_order
  b__law_is_order : Binds K t.d__law_is_order ["_law_thing"] []
  m__law_spoilt : mg "_law_spoilt" = some (.ref t.a__law_spoilt)
  F__law_spoilt : Fun K "_law_spoilt" "_law_spoilt" s__law_spoilt t.a__law_spoilt t.d__law_spoilt
  b__law_spoilt : Binds K t.d__law_spoilt ["_law_script", "_law_town", "_law_thing"] []
  m__law_refusals : mg "_law_refusals" = some (.ref t.a__law_refusals)
  F__law_refusals : Fun K "_law_refusals" "_law_refusals" s__law_refusals t.a__law_refusals t.d__law_refusals
  b__law_refusals : Binds K t.d__law_refusals ["_law_script", "_law_town", "_law_order_here", "_law_step", "_law_longs"] []
  m_law : mg "law" = some (.ref t.a_law)
  F_law : Fun K "law" "law" s_law t.a_law t.d_law
  b_law : Binds K t.d_law ["_law_script"] []
  n_ValueError : mg "ValueError" = none
  n_all : mg "all" = none
  n_bool : mg "bool" = none
  n_int : mg "int" = none
  n_isinstance : mg "isinstance" = none
  n_len : mg "len" = none
  n_list : mg "list" = none
  n_range : mg "range" = none
  n_reversed : mg "reversed" = none
  n_set : mg "set" = none
  n_sorted : mg "sorted" = none
  n_str : mg "str" = none
  n_sum : mg "sum" = none
  n_tuple : mg "tuple" = none
  n_zip : mg "zip" = none
  g_Barred : mg "Barred" = some (.ref t.c_Barred)
  Z_Barred : ExcC K t.c_Barred
  v_Barred : PySem.W.kitOne K (.ref t.c_Barred) (.type "ValueError") = some true
  x_Barred : PySem.W.exmOne K (.ref t.c_Barred) (.ref t.c_OrderError) = some true
  q_Barred_Full : PySem.W.kitOne K (.ref t.c_Barred) (.ref t.c_Full) = some false
  q_Barred_NoCount : PySem.W.kitOne K (.ref t.c_Barred) (.ref t.c_NoCount) = some false
  q_Barred_NoNumbers : PySem.W.kitOne K (.ref t.c_Barred) (.ref t.c_NoNumbers) = some false
  q_Barred_NoOrder : PySem.W.kitOne K (.ref t.c_Barred) (.ref t.c_NoOrder) = some false
  q_Barred_NoStep : PySem.W.kitOne K (.ref t.c_Barred) (.ref t.c_NoStep) = some false
  q_Barred_NoTelling : PySem.W.kitOne K (.ref t.c_Barred) (.ref t.c_NoTelling) = some false
  q_Barred_NoThing : PySem.W.kitOne K (.ref t.c_Barred) (.ref t.c_NoThing) = some false
  q_Barred_Nothing : PySem.W.kitOne K (.ref t.c_Barred) (.ref t.c_Nothing) = some false
  g_Full : mg "Full" = some (.ref t.c_Full)
  g_NoCount : mg "NoCount" = some (.ref t.c_NoCount)
  g_NoNumbers : mg "NoNumbers" = some (.ref t.c_NoNumbers)
  Z_NoNumbers : ExcC K t.c_NoNumbers
  v_NoNumbers : PySem.W.kitOne K (.ref t.c_NoNumbers) (.type "ValueError") = some true
  x_NoNumbers : PySem.W.exmOne K (.ref t.c_NoNumbers) (.ref t.c_OrderError) = some true
  q_NoNumbers_Barred : PySem.W.kitOne K (.ref t.c_NoNumbers) (.ref t.c_Barred) = some false
  q_NoNumbers_Full : PySem.W.kitOne K (.ref t.c_NoNumbers) (.ref t.c_Full) = some false
  q_NoNumbers_NoCount : PySem.W.kitOne K (.ref t.c_NoNumbers) (.ref t.c_NoCount) = some false
  q_NoNumbers_NoOrder : PySem.W.kitOne K (.ref t.c_NoNumbers) (.ref t.c_NoOrder) = some false
  q_NoNumbers_NoStep : PySem.W.kitOne K (.ref t.c_NoNumbers) (.ref t.c_NoStep) = some false
  q_NoNumbers_NoTelling : PySem.W.kitOne K (.ref t.c_NoNumbers) (.ref t.c_NoTelling) = some false
  q_NoNumbers_NoThing : PySem.W.kitOne K (.ref t.c_NoNumbers) (.ref t.c_NoThing) = some false
  q_NoNumbers_Nothing : PySem.W.kitOne K (.ref t.c_NoNumbers) (.ref t.c_Nothing) = some false
  g_NoOrder : mg "NoOrder" = some (.ref t.c_NoOrder)
  Z_NoOrder : ExcC K t.c_NoOrder
  v_NoOrder : PySem.W.kitOne K (.ref t.c_NoOrder) (.type "ValueError") = some true
  x_NoOrder : PySem.W.exmOne K (.ref t.c_NoOrder) (.ref t.c_OrderError) = some true
  q_NoOrder_Barred : PySem.W.kitOne K (.ref t.c_NoOrder) (.ref t.c_Barred) = some false
  q_NoOrder_Full : PySem.W.kitOne K (.ref t.c_NoOrder) (.ref t.c_Full) = some false
  q_NoOrder_NoCount : PySem.W.kitOne K (.ref t.c_NoOrder) (.ref t.c_NoCount) = some false
  q_NoOrder_NoNumbers : PySem.W.kitOne K (.ref t.c_NoOrder) (.ref t.c_NoNumbers) = some false
  q_NoOrder_NoStep : PySem.W.kitOne K (.ref t.c_NoOrder) (.ref t.c_NoStep) = some false
  q_NoOrder_NoTelling : PySem.W.kitOne K (.ref t.c_NoOrder) (.ref t.c_NoTelling) = some false
  q_NoOrder_NoThing : PySem.W.kitOne K (.ref t.c_NoOrder) (.ref t.c_NoThing) = some false
  q_NoOrder_Nothing : PySem.W.kitOne K (.ref t.c_NoOrder) (.ref t.c_Nothing) = some false
  g_NoStep : mg "NoStep" = some (.ref t.c_NoStep)
  Z_NoStep : ExcC K t.c_NoStep
  v_NoStep : PySem.W.kitOne K (.ref t.c_NoStep) (.type "ValueError") = some true
  x_NoStep : PySem.W.exmOne K (.ref t.c_NoStep) (.ref t.c_OrderError) = some true
  q_NoStep_Barred : PySem.W.kitOne K (.ref t.c_NoStep) (.ref t.c_Barred) = some false
  q_NoStep_Full : PySem.W.kitOne K (.ref t.c_NoStep) (.ref t.c_Full) = some false
  q_NoStep_NoCount : PySem.W.kitOne K (.ref t.c_NoStep) (.ref t.c_NoCount) = some false
  q_NoStep_NoNumbers : PySem.W.kitOne K (.ref t.c_NoStep) (.ref t.c_NoNumbers) = some false
  q_NoStep_NoOrder : PySem.W.kitOne K (.ref t.c_NoStep) (.ref t.c_NoOrder) = some false
  q_NoStep_NoTelling : PySem.W.kitOne K (.ref t.c_NoStep) (.ref t.c_NoTelling) = some false
  q_NoStep_NoThing : PySem.W.kitOne K (.ref t.c_NoStep) (.ref t.c_NoThing) = some false
  q_NoStep_Nothing : PySem.W.kitOne K (.ref t.c_NoStep) (.ref t.c_Nothing) = some false
  g_NoTelling : mg "NoTelling" = some (.ref t.c_NoTelling)
  g_NoThing : mg "NoThing" = some (.ref t.c_NoThing)
  Z_NoThing : ExcC K t.c_NoThing
  v_NoThing : PySem.W.kitOne K (.ref t.c_NoThing) (.type "ValueError") = some true
  x_NoThing : PySem.W.exmOne K (.ref t.c_NoThing) (.ref t.c_OrderError) = some true
  q_NoThing_Barred : PySem.W.kitOne K (.ref t.c_NoThing) (.ref t.c_Barred) = some false
  q_NoThing_Full : PySem.W.kitOne K (.ref t.c_NoThing) (.ref t.c_Full) = some false
  q_NoThing_NoCount : PySem.W.kitOne K (.ref t.c_NoThing) (.ref t.c_NoCount) = some false
  q_NoThing_NoNumbers : PySem.W.kitOne K (.ref t.c_NoThing) (.ref t.c_NoNumbers) = some false
  q_NoThing_NoOrder : PySem.W.kitOne K (.ref t.c_NoThing) (.ref t.c_NoOrder) = some false
  q_NoThing_NoStep : PySem.W.kitOne K (.ref t.c_NoThing) (.ref t.c_NoStep) = some false
  q_NoThing_NoTelling : PySem.W.kitOne K (.ref t.c_NoThing) (.ref t.c_NoTelling) = some false
  q_NoThing_Nothing : PySem.W.kitOne K (.ref t.c_NoThing) (.ref t.c_Nothing) = some false
  g_Nothing : mg "Nothing" = some (.ref t.c_Nothing)
  g_OrderError : mg "OrderError" = some (.ref t.c_OrderError)
  c_MOST_NUMBER : ∃ tk, mg "MOST_NUMBER" = some (.int 9999 tk)
  c_MOST_STEP : ∃ tk, mg "MOST_STEP" = some (.int 999 tk)
  c_MOST_THINGS : ∃ tk, mg "MOST_THINGS" = some (.int 8 tk)
structure XF (K : PySem.W.Frag) (mg : Str → Option Value) (c_Barred c_Full c_NoCount c_NoNumbers c_NoOrder c_NoStep c_NoTelling c_NoThing c_Nothing c_OrderError : Addr) : Prop where
  g_Barred : mg "Barred" = some (.ref c_Barred)
  Z_Barred : ExcC K c_Barred
  v_Barred : PySem.W.kitOne K (.ref c_Barred) (.type "ValueError") = some true
  x_Barred : PySem.W.exmOne K (.ref c_Barred) (.ref c_OrderError) = some true
  q_Barred_Full : PySem.W.kitOne K (.ref c_Barred) (.ref c_Full) = some false
  q_Barred_NoCount : PySem.W.kitOne K (.ref c_Barred) (.ref c_NoCount) = some false
  q_Barred_NoNumbers : PySem.W.kitOne K (.ref c_Barred) (.ref c_NoNumbers) = some false
  q_Barred_NoOrder : PySem.W.kitOne K (.ref c_Barred) (.ref c_NoOrder) = some false
  q_Barred_NoStep : PySem.W.kitOne K (.ref c_Barred) (.ref c_NoStep) = some false
  q_Barred_NoTelling : PySem.W.kitOne K (.ref c_Barred) (.ref c_NoTelling) = some false
  q_Barred_NoThing : PySem.W.kitOne K (.ref c_Barred) (.ref c_NoThing) = some false
  q_Barred_Nothing : PySem.W.kitOne K (.ref c_Barred) (.ref c_Nothing) = some false
  g_Full : mg "Full" = some (.ref c_Full)
  g_NoCount : mg "NoCount" = some (.ref c_NoCount)
  g_NoNumbers : mg "NoNumbers" = some (.ref c_NoNumbers)
  Z_NoNumbers : ExcC K c_NoNumbers
  v_NoNumbers : PySem.W.kitOne K (.ref c_NoNumbers) (.type "ValueError") = some true
  x_NoNumbers : PySem.W.exmOne K (.ref c_NoNumbers) (.ref c_OrderError) = some true
  q_NoNumbers_Barred : PySem.W.kitOne K (.ref c_NoNumbers) (.ref c_Barred) = some false
  q_NoNumbers_Full : PySem.W.kitOne K (.ref c_NoNumbers) (.ref c_Full) = some false
  q_NoNumbers_NoCount : PySem.W.kitOne K (.ref c_NoNumbers) (.ref c_NoCount) = some false
  q_NoNumbers_NoOrder : PySem.W.kitOne K (.ref c_NoNumbers) (.ref c_NoOrder) = some false
  q_NoNumbers_NoStep : PySem.W.kitOne K (.ref c_NoNumbers) (.ref c_NoStep) = some false
  q_NoNumbers_NoTelling : PySem.W.kitOne K (.ref c_NoNumbers) (.ref c_NoTelling) = some false
  q_NoNumbers_NoThing : PySem.W.kitOne K (.ref c_NoNumbers) (.ref c_NoThing) = some false
  q_NoNumbers_Nothing : PySem.W.kitOne K (.ref c_NoNumbers) (.ref c_Nothing) = some false
  g_NoOrder : mg "NoOrder" = some (.ref c_NoOrder)
  Z_NoOrder : ExcC K c_NoOrder
  v_NoOrder : PySem.W.kitOne K (.ref c_NoOrder) (.type "ValueError") = some true
  x_NoOrder : PySem.W.exmOne K (.ref c_NoOrder) (.ref c_OrderError) = some true
  q_NoOrder_Barred : PySem.W.kitOne K (.ref c_NoOrder) (.ref c_Barred) = some false
  q_NoOrder_Full : PySem.W.kitOne K (.ref c_NoOrder) (.ref c_Full) = some false
  q_NoOrder_NoCount : PySem.W.kitOne K (.ref c_NoOrder) (.ref c_NoCount) = some false
  q_NoOrder_NoNumbers : PySem.W.kitOne K (.ref c_NoOrder) (.ref c_NoNumbers) = some false
  q_NoOrder_NoStep : PySem.W.kitOne K (.ref c_NoOrder) (.ref c_NoStep) = some false
  q_NoOrder_NoTelling : PySem.W.kitOne K (.ref c_NoOrder) (.ref c_NoTelling) = some false
  q_NoOrder_NoThing : PySem.W.kitOne K (.ref c_NoOrder) (.ref c_NoThing) = some false
  q_NoOrder_Nothing : PySem.W.kitOne K (.ref c_NoOrder) (.ref c_Nothing) = some false
  g_NoStep : mg "NoStep" = some (.ref c_NoStep)
  Z_NoStep : ExcC K c_NoStep
  v_NoStep : PySem.W.kitOne K (.ref c_NoStep) (.type "ValueError") = some true
  x_NoStep : PySem.W.exmOne K (.ref c_NoStep) (.ref c_OrderError) = some true
  q_NoStep_Barred : PySem.W.kitOne K (.ref c_NoStep) (.ref c_Barred) = some false
  q_NoStep_Full : PySem.W.kitOne K (.ref c_NoStep) (.ref c_Full) = some false
  q_NoStep_NoCount : PySem.W.kitOne K (.ref c_NoStep) (.ref c_NoCount) = some false
  q_NoStep_NoNumbers : PySem.W.kitOne K (.ref c_NoStep) (.ref c_NoNumbers) = some false
  q_NoStep_NoOrder : PySem.W.kitOne K (.ref c_NoStep) (.ref c_NoOrder) = some false
  q_NoStep_NoTelling : PySem.W.kitOne K (.ref c_NoStep) (.ref c_NoTelling) = some false
  q_NoStep_NoThing : PySem.W.kitOne K (.ref c_NoStep) (.ref c_NoThing) = some false
  q_NoStep_Nothing : PySem.W.kitOne K (.ref c_NoStep) (.ref c_Nothing) = some false
  g_NoTelling : mg "NoTelling" = some (.ref c_NoTelling)
  g_NoThing : mg "NoThing" = some (.ref c_NoThing)
  Z_NoThing : ExcC K c_NoThing
  v_NoThing : PySem.W.kitOne K (.ref c_NoThing) (.type "ValueError") = some true
  x_NoThing : PySem.W.exmOne K (.ref c_NoThing) (.ref c_OrderError) = some true
  q_NoThing_Barred : PySem.W.kitOne K (.ref c_NoThing) (.ref c_Barred) = some false
  q_NoThing_Full : PySem.W.kitOne K (.ref c_NoThing) (.ref c_Full) = some false
  q_NoThing_NoCount : PySem.W.kitOne K (.ref c_NoThing) (.ref c_NoCount) = some false
  q_NoThing_NoNumbers : PySem.W.kitOne K (.ref c_NoThing) (.ref c_NoNumbers) = some false
  q_NoThing_NoOrder : PySem.W.kitOne K (.ref c_NoThing) (.ref c_NoOrder) = some false
  q_NoThing_NoStep : PySem.W.kitOne K (.ref c_NoThing) (.ref c_NoStep) = some false
  q_NoThing_NoTelling : PySem.W.kitOne K (.ref c_NoThing) (.ref c_NoTelling) = some false
  q_NoThing_Nothing : PySem.W.kitOne K (.ref c_NoThing) (.ref c_Nothing) = some false
  g_Nothing : mg "Nothing" = some (.ref c_Nothing)
  g_OrderError : mg "OrderError" = some (.ref c_OrderError)

end My

local macro_rules | `(tactic| walk_at "rd") => `(tactic| (repeat (first |  with_reducible refine L2.rd_seq ?_ | with_reducible refine L2.rd_next ?_ | with_reducible refine L2.rd_ifS ?_ | with_reducible refine L2.rd_ret ?_ | with_reducible refine L2.rd_drop ?_ | with_reducible refine L2.rd_asg ?_ | with_reducible refine L2.rd_gname ?_ | ((with_reducible refine' L2.rd_var ?qe1 ?_); (case qe1 => exact rfl)) | with_reducible refine L2.rd_C ?_ | with_reducible refine L2.rd_for ?_ | with_reducible refine L2.rd_lc ?_ | with_reducible refine L2.rd_rng1 ?_ | with_reducible refine L2.rd_itup ?_ | with_reducible refine L2.rd_ilst ?_ | with_reducible refine L2.rd_yes ?_ | with_reducible refine L2.rd_ifE ?_ | with_reducible refine L2.rd_raise ?_ | with_reducible refine L2.rd_while ?_ | with_reducible refine L2.rd_gsub ?_ | with_reducible refine L2.rd_bm ?_ | with_reducible refine L2.rd_gcons ?_ | with_reducible refine L2.rd_gnil ?_ | with_reducible refine L2.rd_test ?_ | with_reducible refine L2.rd_B ?_ | with_reducible refine L2.rd_bl ?_ | with_reducible refine L2.rd_op ?_ | with_reducible refine L2.rd_un ?_ | with_reducible refine L2.rd_I0 ?_ | with_reducible refine L2.rd_and ?_ | with_reducible refine L2.rd_or ?_ | with_reducible refine L2.rd_not ?_ | with_reducible refine L2.rd_andV ?_ | with_reducible refine L2.rd_orV ?_ | with_reducible refine L2.rd_notV ?_ | with_reducible refine L2.rd_blE ?_ | with_reducible refine L2.rd_nil ?_ | with_reducible refine L2.rd_cons ?_ | with_reducible refine L2.rd_tup ?_ | with_reducible refine L2.rd_lst ?_ | with_reducible refine L2.rd_call ?_ | with_reducible refine L2.rd_cb ?_ | with_reducible refine L2.rd_chain ?_ | with_reducible refine L2.rd_eqI ?_ | with_reducible refine L2.rd_neI ?_ | with_reducible refine L2.rd_eqB ?_ | with_reducible refine L2.rd_neB ?_ | with_reducible refine L2.rd_isN ?_ | with_reducible refine L2.rd_notN ?_ | with_reducible refine L2.rd_max2 ?_ | with_reducible refine L2.rd_int1 ?_ | with_reducible refine L2.iteT ?_ | with_reducible refine L2.iteF ?_ | with_reducible refine L2.if_nn ?_ | with_reducible refine L2.if_rn ?_ | with_reducible refine L2.if_in ?_ | with_reducible refine L2.if_nnN ?_ | with_reducible refine L2.if_rnN ?_ | with_reducible refine L2.if_inN ?_ | with_reducible refine L2.ifNT ?_ | with_reducible refine L2.ifNF ?_ | ((with_reducible refine' L2.rd_isBool ?qe1 ?_); (case qe1 => assumption)) | ((with_reducible refine' L2.rd_isInt ?qe1 ?_); (case qe1 => assumption)) | ((with_reducible refine' L2.rd_isTup ?qe1 ?_); (case qe1 => assumption)) | ((with_reducible refine' L2.rd_isLst ?qe1 ?_); (case qe1 => assumption)) | ((with_reducible refine' L2.rd_isStr ?qe1 ?_); (case qe1 => assumption)) | ((with_reducible refine' L2.rd_all ?qe1 ?_); (case qe1 => assumption)) | ((with_reducible refine' L2.rd_any ?qe1 ?_); (case qe1 => assumption)) | ((with_reducible refine' L2.rd_lenT ?qe1 ?_); (case qe1 => assumption)) | ((with_reducible refine' L2.rd_lenL ?qe1 ?_); (case qe1 => assumption)) | ((with_reducible refine' L2.rd_tupL ?qe1 ?_); (case qe1 => assumption)) | ((with_reducible refine' L2.rd_ixT ?qe1 ?qf1 ?_); (case qe1 => assumption); (case qf1 => exact rfl)) | ((with_reducible refine' L2.rd_ixL ?qe1 ?qf1 ?_); (case qe1 => assumption); (case qf1 => exact rfl)) | ((with_reducible refine L2.ifT ?_ ?_); with_reducible rfl) | ((with_reducible refine L2.ifF ?_ ?_); with_reducible rfl) | (dsimp only))))

set_option Elab.async false
set_option linter.all false
set_option maxRecDepth 100000
set_option maxHeartbeats 4000000
namespace My
open PySem L2
section
variable {P : Program} {w : World} {K : PySem.W.Frag} {mg : Str → Option Value} {base : Heap} {t : Ad}
/-! the mirror -/
noncomputable def wholeB (d : PyData) (lo hi : Int) : Bool := match d with | .int i => decide (lo ≤ i) && decide (i ≤ hi) | _ => false
set_option genSizeOf false in
set_option genInjectivity false in
inductive sp_is_whole (vs : List V) (H : Hp) (Q : VK) (zz3 : XK) : Prop where
  | mk (x lo hi d : _) (zh0 : vs = [x, .int lo, .int hi]) (zh1 : Is H x d) (zh2 : Q (.bl (wholeB d lo hi)) H) : sp_is_whole  vs H Q zz3
theorem ok_is_whole (T : Txt K mg t) : FnOk P w K mg base CX0 1 t.a_is_whole t.d_is_whole ["value", "low", "high"] sp_is_whole := by
  refine T.F_is_whole.ok sc_is_whole (fun vs H Q E h => ?_) (fun cdv A outer s H vs Q E hr h => ?_)
  · obtain ⟨x, lo, hi, d, rfl, _⟩ := h
    rfl
  · obtain ⟨x, lo, hi, d, rfl, hx, q⟩ := h
    refine ⟨_, (pss_cons (ps_if (PW.pt (pw_or (pt_val (pe_callB c_isinst (by rfl) T.n_isinstance bt_isinstance (pa_cons (pv 0) (pa_cons (pe_bltn (v := .ty "bool") rfl T.n_bool bt_bool rfl) pa_nil)))) (pw_or1 (pt_not (pt_val (pe_callB c_isinst (by rfl) T.n_isinstance bt_isinstance (pa_cons (pv 0) (pa_cons (pe_bltn (v := .ty "int") rfl T.n_int bt_int rfl) pa_nil)))))))) (pss_one (ps_ret pe_bl)) pss_nil)
      (pss_one (ps_ret (pe_chain op_le op_le (pv 1) (pv 0) (pv 2))))), ?_⟩
    walk_at "rd"
    have hx2 := hx
    cases hx with
    | int i =>
      walk_at "rd"
      refine ifB (fun h => ?_) (fun h => ?_) <;> walk_at "rd" <;> simpa [wholeB, h] using q
    | _ => walk_at "rd" <;> exact q
set_option genSizeOf false in
set_option genInjectivity false in
inductive sp_is_thing (vs : List V) (H : Hp) (Q : VK) (zz3 : XK) : Prop where
  | mk (x m d : _) (zh0 : vs = [x, .int m]) (zh1 : Is H x d) (zh2 : Q (.bl (wholeB d 0 (m - 1))) H) : sp_is_thing  vs H Q zz3
theorem ok_is_thing (T : Txt K mg t) : FnOk P w K mg base CX0 2 t.a_is_thing t.d_is_thing ["value", "many"] sp_is_thing := by
  refine T.F_is_thing.ok sc_is_thing (fun vs H Q E h => ?_) (fun cdv A outer s H vs Q E hr h => ?_)
  · obtain ⟨x, m, d, rfl, _⟩ := h
    rfl
  · obtain ⟨x, m, d, rfl, hx, q⟩ := h
    refine ⟨_, (pss_one (ps_ret (pe_call (ok_is_whole T) (hr.mono (by decide)) rfl T.m_is_whole T.F_is_whole.kp T.b_is_whole .nil pass0 (pa_cons (pv 0) (pa_cons pe_int (pa_cons (pe_op op_sub (pv 1) pe_int) pa_nil)))))), ?_⟩
    walk_at "rd"
    exact ⟨_, _, _, _, rfl, hx, q⟩
/-! pairs, orders -/
noncomputable def prD (p : Int × Int) : PyData := .tuple [.int p.1, .int p.2]
noncomputable def pairB (d : PyData) (m : Int) : Bool := match d with | .tuple [a, b] => wholeB a 0 (m - 1) && wholeB b 0 (m - 1) && !PyData.eqv a b | _ => false
set_option genSizeOf false in
set_option genInjectivity false in
inductive sp_is_pair (vs : List V) (H : Hp) (Q : VK) (zz3 : XK) : Prop where
  | mk (x m d : _) (zh0 : vs = [x, .int m]) (zh1 : Is H x d) (zh2 : Q (.bl (pairB d m)) H) : sp_is_pair  vs H Q zz3
theorem pair_other {d : PyData} {m : Int} (h : ∀ a b, d ≠ .tuple [a, b]) : pairB d m = false := by
  unfold pairB
  split
  · rename_i a b
    exact absurd rfl (h a b)
  · rfl
theorem isTup_no {d : PyData} (h : ∀ ds, d ≠ .tuple ds) : isTupD d = false := by
  cases d <;> first | rfl | exact absurd rfl (h _)
theorem wholeB_int {d : PyData} {lo hi : Int} (h : wholeB d lo hi = true) : ∃ i : Int, d = .int i ∧ lo ≤ i ∧ i ≤ hi := by
  unfold wholeB at h
  split at h
  · rename_i i
    simp at h
    exact ⟨i, rfl, h.1, h.2⟩
  · cases h
theorem ok_is_pair (T : Txt K mg t) : FnOk P w K mg base CX0 3 t.a_is_pair t.d_is_pair ["value", "many"] sp_is_pair := by
  refine T.F_is_pair.ok sc_is_pair (fun vs H Q E h => ?_) (fun cdv A outer s H vs Q E hr h => ?_)
  · obtain ⟨x, m, d, rfl, _⟩ := h
    rfl
  · obtain ⟨x, m, d, rfl, hx, q⟩ := h
    refine ⟨_, (pss_cons (ps_if (PW.pt (pw_or (pt_not (pt_val (pe_callB c_isinst (by rfl) T.n_isinstance bt_isinstance (pa_cons (pv 0) (pa_cons (pe_bltn (v := .ty "tuple") rfl T.n_tuple bt_tuple rfl) pa_nil))))) (pw_or1 (pt_cmpR (op_neD hr.units) (pe_callB (k_len K) (by rfl) T.n_len bt_len (pa_cons (pv 0) pa_nil)) pe_int (nomark _))))) (pss_one (ps_ret pe_bl)) pss_nil)
      (pss_cons (ps_if (PW.pt (pw_or (pt_not (pt_val (pe_call (ok_is_thing T) (hr.mono (by decide)) rfl T.m_is_thing T.F_is_thing.kp T.b_is_thing .nil pass0 (pa_cons (pe_ix (k_ix K) (pv 0) pe_int (fun _ _ => rfl)) (pa_cons (pv 1) pa_nil))))) (pw_or1 (pt_not (pt_val (pe_call (ok_is_thing T) (hr.mono (by decide)) rfl T.m_is_thing T.F_is_thing.kp T.b_is_thing .nil pass0 (pa_cons (pe_ix (k_ix K) (pv 0) pe_int (fun _ _ => rfl)) (pa_cons (pv 1) pa_nil)))))))) (pss_one (ps_ret pe_bl)) pss_nil)
      (pss_one (ps_ret (pe_cmpR (op_neD hr.units) (pe_ix (k_ix K) (pv 0) pe_int (fun _ _ => rfl)) (pe_ix (k_ix K) (pv 0) pe_int (fun _ _ => rfl)) (nomark _)))))), ?_⟩
    walk_at "rd"
    by_cases hd : ∃ ds, d = .tuple ds
    · obtain ⟨ds, rfl⟩ := hd
      cases hx with
      | @tup a xs _ e hxs =>
      walk_at "rd"
      have hl := hxs.length
      refine ifB (fun h => ?_) (fun h => ?_)
      · walk_at "rd"
        rw [pair_other] at q
        · exact q
        · rintro a b ⟨⟩
          simp at hl
          simp [hl] at h
      · walk_at "rd"
        match xs, ds, hxs, hl with
        | [x1, x2], [d1, d2], .cons i1 (.cons i2 .nil), _ =>
          walk_at "rd"
          refine ⟨_, _, _, rfl, i1, ?_⟩
          walk_at "rd"
          have qe : pairB (.tuple [d1, d2]) m = (wholeB d1 0 (m - 1) && wholeB d2 0 (m - 1) && !PyData.eqv d1 d2) := rfl
          rw [qe] at q
          refine ifB (fun h1 => ?_) (fun h1 => ?_)
          · walk_at "rd"
            have h1' : wholeB d1 0 (m - 1) = false := by simpa using h1
            simpa [h1'] using q
          · walk_at "rd"
            refine ⟨_, _, _, rfl, i2, ?_⟩
            walk_at "rd"
            have h1' : wholeB d1 0 (m - 1) = true := by simpa using h1
            refine ifB (fun h2 => ?_) (fun h2 => ?_)
            · walk_at "rd"
              have h2' : wholeB d2 0 (m - 1) = false := by simpa using h2
              simpa [h2'] using q
            · walk_at "rd"
              have h2' : wholeB d2 0 (m - 1) = true := by simpa using h2
              obtain ⟨i, rfl, _⟩ := wholeB_int h1'
              obtain ⟨j, rfl, _⟩ := wholeB_int h2'
              refine rd_eqD i1 i2 ⟨rfl, Nat.zero_le _⟩ ⟨rfl, Nat.zero_le _⟩ ?_
              simpa [h1', h2'] using q
        | [], _, _, _ => simp at h
        | [_], _, _, _ => simp at h
        | _ :: _ :: _ :: _, _, _, _ => simp at h; omega
    · have hd' : ∀ ds, d ≠ .tuple ds := fun ds e => hd ⟨ds, e⟩
      rw [isTup_no hd']
      walk_at "rd"
      rw [pair_other fun a b => hd' _] at q
      exact q
noncomputable def risingB : List (Int × Int) → Bool
  | a :: b :: r => HT.lexLt [a.1, a.2] [b.1, b.2] && risingB (b :: r)
  | _ => true
theorem rising_range : ∀ ps : List (Int × Int), risingB ps = ((List.range (ps.length - 1)).map fun i => HT.lexLt [(ps.getD i (0, 0)).1, (ps.getD i (0, 0)).2] [(ps.getD (i + 1) (0, 0)).1, (ps.getD (i + 1) (0, 0)).2]).all id
  | [] => rfl
  | [a] => rfl
  | a :: b :: r => by
    rw [risingB, rising_range (b :: r)]
    have e : (a :: b :: r).length - 1 = ((b :: r).length - 1) + 1 := by simp
    rw [e, List.range_succ_eq_map, List.map_cons, List.all_cons, List.map_map]
    rfl
theorem _root_.L2.atI_of {α : Type} {xs : List α} {i : Nat} {k : Int} {v : α} (hk : k = (i : Int)) (h : xs[i]? = some v) : atI xs k = some v := by
  subst hk
  exact atI_nat h
theorem two_ints {H : Hp} {xs : List V} {a b : Int} (h : IsAll H xs [.int a, .int b]) : xs = [.int a, .int b] := by
  cases h with
  | cons h1 t =>
    cases t with
    | cons h2 t2 =>
      cases h1
      cases h2
      cases t2
      rfl
theorem two_io {H : Hp} {xs : List V} {a : Int} {ds : List PyData} (h : IsAll H xs [.int a, .tuple ds]) : ∃ b ys, xs = [.int a, .ref b] ∧ H b = some (.tup ys) ∧ IsAll H ys ds := by
  cases h with
  | cons h1 t =>
    cases t with
    | cons h2 t2 =>
      cases h1
      cases t2
      cases h2 with
      | tup eb hb => exact ⟨_, _, rfl, eb, hb⟩
theorem pr_at {H : Hp} {xs : List V} {ps : List (Int × Int)} {i : Nat} (h : IsAll H xs (ps.map prD)) (hi : i < ps.length) :
    ∃ r, xs[i]? = some (.ref r) ∧ H r = some (.tup [.int (ps.getD i (0, 0)).1, .int (ps.getD i (0, 0)).2]) := by
  obtain ⟨v, e, iv⟩ := h.get (i := i) (d := prD (ps.getD i (0, 0))) (by rw [List.getElem?_map]; simp [hi])
  unfold prD at iv
  cases iv with
  | @tup a xs _ ea hxs =>
    obtain rfl := two_ints hxs
    exact ⟨a, e, ea⟩
theorem small_ln {n : Nat} (h : n ≤ 1000) : n ≤ sizeLine := Nat.le_of_lt (small1000 h)
set_option genSizeOf false in
set_option genInjectivity false in
inductive sp_is_rising (vs : List V) (H : Hp) (Q : VK) (zz3 : XK) : Prop where
  | mk (x ps : _) (zh0 : vs = [x]) (zh1 : Is H x (.tuple (ps.map prD))) (zh2 : ps.length ≤ 1000) (zh3 : ∀ H', Same H H' → Q (.bl (risingB ps)) H') : sp_is_rising  vs H Q zz3
theorem ok_is_rising (T : Txt K mg t) : FnOk P w K mg base CX0 1 t.a_is_rising t.d_is_rising ["pairs"] sp_is_rising := by
  refine T.F_is_rising.ok sc_is_rising (fun vs H Q E h => ?_) (fun cdv A outer s H vs Q E hr h => ?_)
  · obtain ⟨x, ps, rfl, _⟩ := h
    rfl
  · obtain ⟨x, ps, rfl, hx, hsz, q⟩ := h
    refine ⟨_, (pss_one (ps_ret (pe_callB (k_all K) (by rfl) T.n_all bt_all (pa_cons (pe_lc rfl ⟨True.intro, True.intro, (.inl rfl), True.intro⟩ (M := ["place", "pairs"]) (.own (.free 0 rfl rfl .nil)) (gk_name rfl) rfl (by decide +kernel) (pi_range1 rfl T.n_range (pa_cons (pe_op op_sub (pe_callB (k_len K) (by rfl) T.n_len bt_len (pa_cons (pv 0) pa_nil)) pe_int) pa_nil)) (fun C fp s1 H1 => ⟨pg_name (i := 0) (show (["place", "pairs"] : List Str).Nodup by decide +kernel) rfl (Or.inl rfl), pif_nil, (pe_cmpR (k_ltT K hr.units0) (pe_ix (k_ix K) (pv 1) (pv 0) (fun _ _ => rfl)) (pe_ix (k_ix K) (pv 1) (pe_op op_add (pv 0) pe_int) (fun _ _ => rfl)) (nomark _))⟩)) pa_nil)))), ?_⟩
    cases hx with
    | @tup a xs _ e hxs =>
    have hl : xs.length = ps.length := by rw [hxs.length, List.length_map]
    walk_at "rd"
    refine ⟨_, rfl, by omega, by omega, ?_⟩
    have en : ((xs.length : Int) - 1).toNat = ps.length - 1 := by omega
    rw [en]
    refine lp_range (small_ln (by omega)) (fun i ys H' => H' = H ∧ ys = ((List.range i).map fun i => HT.lexLt [(ps.getD i (0, 0)).1, (ps.getD i (0, 0)).2] [(ps.getD (i + 1) (0, 0)).1, (ps.getD (i + 1) (0, 0)).2]).map V.bl) ⟨rfl, rfl⟩ (by rintro i ys H' ⟨_, rfl⟩; simp) ?_ ?_
    · rintro i ys H' hi ⟨rfl, rfl⟩
      obtain ⟨r1, e1, h1⟩ := pr_at hxs (i := i) (by omega)
      obtain ⟨r2, e2, h2⟩ := pr_at hxs (i := i + 1) (by omega)
      walk_at "rd"
      refine rd_ixT e (atI_of (i := i) (by omega) e1) ?_
      walk_at "rd"
      refine rd_ixT e (atI_of (i := i + 1) (by omega) e2) ?_
      refine rd_ltT h1 h2 ⟨rfl, ?_⟩
      rw [List.range_succ, List.map_append, List.map_append]
      rfl
    · rintro ys H' ⟨rfl, rfl⟩ p hp
      walk_at "rd"
      refine rd_all upd_same ?_
      rw [← rising_range]
      exact q _ (Same.upd hp)
noncomputable def decP (d : PyData) : Int × Int := match d with | .tuple [.int a, .int b] => (a, b) | _ => (0, 0)
noncomputable def orderB (d : PyData) : Bool := match d with | .tuple [.int n, .tuple ds] => decide (1 ≤ n) && decide (n ≤ 8) && ds.all (fun d => pairB d n) && risingB (ds.map decP) | _ => false
theorem pairB_dec {d : PyData} {m : Int} (h : pairB d m = true) : d = prD (decP d) := by
  unfold pairB at h
  split at h
  · rename_i a b
    rw [Bool.and_eq_true, Bool.and_eq_true] at h
    obtain ⟨i, rfl, _⟩ := wholeB_int h.1.1
    obtain ⟨j, rfl, _⟩ := wholeB_int h.1.2
    rfl
  · cases h
theorem pairs_dec {m : Int} : ∀ {ds : List PyData}, ds.all (fun d => pairB d m) = true → ds = (ds.map decP).map prD
  | [], _ => rfl
  | d :: ds, h => by
    rw [List.all_cons, Bool.and_eq_true] at h
    rw [List.map_cons, List.map_cons, ← pairs_dec h.2, ← pairB_dec h.1]
theorem order_other {d : PyData} (h : ∀ n ds, d ≠ .tuple [.int n, .tuple ds]) : orderB d = false := by
  unfold orderB
  split
  · rename_i n ds
    exact absurd rfl (h n ds)
  · rfl
noncomputable def okOrd (d : PyData) : Prop := ∀ m ds, d = .tuple [m, .tuple ds] → ds.length ≤ 1000
set_option genSizeOf false in
set_option genInjectivity false in
inductive sp_is_order (vs : List V) (H : Hp) (Q : VK) (zz3 : XK) : Prop where
  | mk (x d : _) (zh0 : vs = [x]) (zh1 : Is H x d) (zh2 : okOrd d) (zh3 : ∀ H', Same H H' → Q (.bl (orderB d)) H') : sp_is_order  vs H Q zz3
theorem ok_is_order (T : Txt K mg t) : FnOk P w K mg base CX0 4 t.a_is_order t.d_is_order ["value"] sp_is_order := by
  refine T.F_is_order.ok sc_is_order (fun vs H Q E h => ?_) (fun cdv A outer s H vs Q E hr h => ?_)
  · obtain ⟨x, d, rfl, _⟩ := h
    rfl
  · obtain ⟨x, d, rfl, hx, hok, q⟩ := h
    refine ⟨_, (pss_cons (ps_if (PW.pt (pw_or (pt_not (pt_val (pe_callB c_isinst (by rfl) T.n_isinstance bt_isinstance (pa_cons (pv 0) (pa_cons (pe_bltn (v := .ty "tuple") rfl T.n_tuple bt_tuple rfl) pa_nil))))) (pw_or1 (pt_cmpR (op_neD hr.units) (pe_callB (k_len K) (by rfl) T.n_len bt_len (pa_cons (pv 0) pa_nil)) pe_int (nomark _))))) (pss_one (ps_ret pe_bl)) pss_nil)
      (pss_cons (ps_set (i := 1) sc_is_order.nd rfl (Or.inr rfl) (pe_ix (k_ix K) (pv 0) pe_int (fun _ _ => rfl)))
      (pss_cons (ps_set (i := 2) sc_is_order.nd rfl (Or.inl rfl) (pe_ix (k_ix K) (pv 0) pe_int (fun _ _ => rfl)))
      (pss_cons (ps_if (PW.pt (pw_or (pt_not (pt_val (pe_call (ok_is_whole T) (hr.mono (by decide)) rfl T.m_is_whole T.F_is_whole.kp T.b_is_whole .nil pass0 (pa_cons (pv 1) (pa_cons pe_int (pa_cons (pe_gint rfl T.c_MOST_THINGS) pa_nil)))))) (pw_or1 (pt_not (pt_val (pe_callB c_isinst (by rfl) T.n_isinstance bt_isinstance (pa_cons (pv 2) (pa_cons (pe_bltn (v := .ty "tuple") rfl T.n_tuple bt_tuple rfl) pa_nil)))))))) (pss_one (ps_ret pe_bl)) pss_nil)
      (pss_one (ps_ret (pe_and (pe_callB (k_all K) (by rfl) T.n_all bt_all (pa_cons (pe_lc rfl ⟨True.intro, True.intro, True.intro, (.inl rfl), True.intro⟩ (M := ["pair", "many"]) (.own (.free 1 rfl rfl .nil)) (gk_name rfl) rfl (by decide +kernel) (k_ptup K (pv 2)) (fun C fp s1 H1 => ⟨pg_name (i := 0) (show (["pair", "many"] : List Str).Nodup by decide +kernel) rfl (Or.inl rfl), pif_nil, (pe_call (ok_is_pair T) (hr.mono (by decide)) rfl T.m_is_pair T.F_is_pair.kp T.b_is_pair .nil pass0 (pa_cons (pv 0) (pa_cons (pv 1) pa_nil)))⟩)) pa_nil)) (pe_one (pe_call (ok_is_rising T) (hr.mono (by decide)) rfl T.m_is_rising T.F_is_rising.kp T.b_is_rising .nil pass0 (pa_cons (pv 2) pa_nil)))))))))), ?_⟩
    walk_at "rd"
    by_cases hd : ∃ ds, d = .tuple ds
    · obtain ⟨ds, rfl⟩ := hd
      cases hx with
      | @tup a xs _ e hxs =>
      walk_at "rd"
      have hl := hxs.length
      refine ifB (fun h => ?_) (fun h => ?_)
      · walk_at "rd"
        have q' := q H (Same.refl H)
        rw [order_other] at q'
        · exact q'
        · rintro n ds ⟨⟩
          simp at hl
          simp [hl] at h
      · walk_at "rd"
        match xs, ds, hxs, hl with
        | [x1, x2], [d1, d2], .cons i1 (.cons i2 .nil), _ =>
          walk_at "rd"
          refine ⟨_, _, _, _, rfl, i1, ?_⟩
          walk_at "rd"
          refine ifB (fun h1 => ?_) (fun h1 => ?_)
          · walk_at "rd"
            have h1' : wholeB d1 1 8 = false := by simpa using h1
            have q' := q H (Same.refl H)
            by_cases h0 : ∃ n ds, d1 = .int n ∧ d2 = .tuple ds
            · obtain ⟨n, ds, rfl, rfl⟩ := h0
              have : orderB (.tuple [.int n, .tuple ds]) = (decide (1 ≤ n) && decide (n ≤ 8) && ds.all (fun d => pairB d n) && risingB (ds.map decP)) := rfl
              rw [this, show (decide (1 ≤ n) && decide (n ≤ 8)) = false from h1'] at q'
              exact q'
            · rw [order_other (by rintro n ds ⟨⟩; exact h0 ⟨_, _, rfl, rfl⟩)] at q'
              exact q'
          · have h1' : wholeB d1 1 8 = true := by simpa using h1
            obtain ⟨n, rfl, hn1, hn8⟩ := wholeB_int h1'
            walk_at "rd"
            by_cases hd2 : ∃ ds, d2 = .tuple ds
            · obtain ⟨ds, rfl⟩ := hd2
              have hlen := hok _ _ rfl
              cases i1 with
              | int _ =>
              cases i2 with
              | @tup b ys _ eb hys =>
              have hlb := hys.length
              walk_at "rd"
              refine ⟨b, rfl, ⟨ys, SqT.of eb⟩, ?_⟩
              refine lp_tup (K := K) (xs := ys) (small_ln (by omega)) (fun i zs H' => H' = H ∧ zs = ((ds.take i).map fun d => pairB d n).map V.bl) ⟨rfl, rfl⟩ (by rintro i ys H' ⟨_, rfl⟩; simp; omega) (fun i zs H' _ h => by rw [h.1]; exact SqT.of eb) ?_ ?_
              · rintro i x zs H' hx ⟨rfl, rfl⟩
                obtain ⟨d, ed, id⟩ := hys.get' hx
                walk_at "rd"
                refine ⟨_, _, _, rfl, id, rfl, ?_⟩
                rw [List.take_add_one, ed, List.map_append, List.map_append]
                rfl
              · rintro zs H' ⟨rfl, rfl⟩ p hp
                walk_at "rd"
                refine rd_all upd_same ?_
                rw [hlb, List.take_length, List.all_map]
                walk_at "rd"
                have qe : orderB (.tuple [.int n, .tuple ds]) = (decide (1 ≤ n) && decide (n ≤ 8) && ds.all (fun d => pairB d n) && risingB (ds.map decP)) := rfl
                rw [qe, decide_eq_true hn1, decide_eq_true hn8] at q
                refine ifB (fun h3 => ?_) (fun h3 => ?_)
                · walk_at "rd"
                  have h3' : ds.all (fun d => pairB d n) = true := h3
                  have ed := pairs_dec h3'
                  have hy2 : Is (upd H' p (.lst (((ds.take ys.length).map fun d => pairB d n).map V.bl))) (.ref b) (.tuple ((ds.map decP).map prD)) := by
                    rw [← ed]
                    exact Is.same (Same.upd hp) (.tup eb hys)
                  rw [hlb, List.take_length] at hy2
                  refine ⟨_, _, rfl, hy2, by rw [List.length_map]; exact hlen, fun H2 s2 => ?_⟩
                  have q' := q H2 ((Same.upd hp).trans s2)
                  simpa [h3'] using q'
                · walk_at "rd"
                  have h3' : ds.all (fun d => pairB d n) = false := h3
                  have q' := q _ (Same.upd (o := .lst ((ds.map fun d => pairB d n).map V.bl)) hp)
                  simpa [h3'] using q'
            · have hd2' : ∀ ds, d2 ≠ .tuple ds := fun ds e => hd2 ⟨ds, e⟩
              rw [isTup_no hd2']
              walk_at "rd"
              have q' := q H (Same.refl H)
              rw [order_other (by rintro n ds ⟨⟩; exact hd2' _ rfl)] at q'
              exact q'
        | [], _, _, _ => simp at h
        | [_], _, _, _ => simp at h
        | _ :: _ :: _ :: _, _, _, _ => simp at h; omega
    · have hd' : ∀ ds, d ≠ .tuple ds := fun ds e => hd ⟨ds, e⟩
      rw [isTup_no hd']
      walk_at "rd"
      have q' := q H (Same.refl H)
      rw [order_other fun n ds => hd' _] at q'
      exact q'
end
end My

set_option Elab.async false
set_option linter.all false
set_option maxRecDepth 100000
set_option maxHeartbeats 4000000
namespace My
open PySem L2
section
variable {P : Program} {w : World} {K : PySem.W.Frag} {mg : Str → Option Value} {base : Heap} {t : Ad}
set_option genSizeOf false in
set_option genInjectivity false in
inductive sp_need_order (vs : List V) (H : Hp) (Q : VK) (zz3 : XK) : Prop where
  | mk (x d : _) (zh0 : vs = [x]) (zh1 : Is H x d) (zh2 : okOrd d) (zh3 : orderB d = true) (zh4 : ∀ H', Same H H' → Q .non H') : sp_need_order  vs H Q zz3
theorem ok_need_order (T : Txt K mg t) : FnOk P w K mg base CX0 5 t.a_need_order t.d_need_order ["value"] sp_need_order := by
  refine T.F_need_order.ok sc_need_order (fun vs H Q E h => ?_) (fun cdv A outer s H vs Q E hr h => ?_)
  · obtain ⟨x, d, rfl, _⟩ := h
    rfl
  · obtain ⟨x, d, rfl, hx, hok, ho, q⟩ := h
    refine ⟨_, (pss_one (ps_if (pt_not (pt_val (pe_call (ok_is_order T) (hr.mono (by decide)) rfl T.m_is_order T.F_is_order.kp T.b_is_order .nil pass0 (pa_cons (pv 0) pa_nil)))) (pss_one ps_never) pss_nil)), ?_⟩
    walk_at "rd"
    refine ⟨_, _, rfl, hx, hok, fun H' s' => ?_⟩
    rw [ho]
    walk_at "rd"
    exact q H' s'
end
end My

set_option Elab.async false
set_option linter.all false
set_option maxRecDepth 100000
set_option maxHeartbeats 4000000
namespace My
open PySem L2
section
variable {P : Program} {w : World} {K : PySem.W.Frag} {mg : Str → Option Value} {base : Heap} {t : Ad}
/-! bars -/
theorem eqv_pr (p q : Int × Int) : PyData.eqv (prD p) (prD q) = decide (p = q) := by
  obtain ⟨a, b⟩ := p
  obtain ⟨c, d⟩ := q
  simp only [prD, PyData.eqv, PyData.eqvAll, Bool.and_true]
  by_cases h : a = c
  · by_cases h2 : b = d
    · subst h h2; simp
    · simp [h, h2]
  · simp [h]
theorem inD_pr (p : Int × Int) : ∀ ps : List (Int × Int), inD (prD p) (ps.map prD) = decide (p ∈ ps)
  | [] => by simp [inD]
  | q :: ps => by
    have ih := inD_pr p ps
    unfold inD at ih ⊢
    rw [List.map_cons, List.any_cons, ih, eqv_pr]
    by_cases h : q = p
    · subst h; simp
    · have h' : ¬ p = q := fun e => h e.symm
      simp [h, h']
theorem ok_pr (p : Int × Int) : okD (prD p) := ⟨rfl, show 1 ≤ 40 by decide⟩
theorem ok_prs : ∀ ps : List (Int × Int), okDs (ps.map prD)
  | [] => ⟨rfl, Nat.zero_le _⟩
  | p :: ps => by
    obtain ⟨a, b⟩ := ok_prs ps
    refine ⟨?_, ?_⟩
    · rw [List.map_cons, PyData.canLayAll0, a]; rfl
    · rw [List.map_cons, PyData.depthAll]
      exact Nat.max_le.mpr ⟨(ok_pr p).2, b⟩
noncomputable def has (ps : List (Int × Int)) (i j : Int) : Bool := decide ((i, j) ∈ ps)
/-- (i, j) in pairs -/
theorem rd_inP {H : Hp} {Q : VK} {p : Addr} {y : V} {i j : Int} {ps : List (Int × Int)} (e : H p = some (.tup [.int i, .int j])) (hy : Is H y (.tuple (ps.map prD))) (h : Q (.bl (has ps i j)) H) : rInD false (.ref p) y H Q := by
  refine rd_inD (d := prD (i, j)) (.tup e (.cons (.int i) (.cons (.int j) .nil))) hy (ok_pr _) (ok_prs _) ?_
  rw [inD_pr]
  exact h
theorem rd_ninP {H : Hp} {Q : VK} {p : Addr} {y : V} {i j : Int} {ps : List (Int × Int)} (e : H p = some (.tup [.int i, .int j])) (hy : Is H y (.tuple (ps.map prD))) (h : Q (.bl (!has ps i j)) H) : rInD true (.ref p) y H Q := by
  refine rd_inD (d := prD (i, j)) (.tup e (.cons (.int i) (.cons (.int j) .nil))) hy (ok_pr _) (ok_prs _) ?_
  rw [inD_pr]
  exact h
theorem two_ln {i j : Int} : [V.int i, V.int j].length ≤ sizeLine := by
  show 2 ≤ sizeLine
  decide
/-! an order -/
noncomputable def ordD (n : Nat) (ps : List (Int × Int)) : PyData := .tuple [.int n, .tuple (ps.map prD)]
structure Ord (n : Nat) (ps : List (Int × Int)) : Prop where
  lo : 1 ≤ n
  hi : n ≤ 8
  ix : ∀ p ∈ ps, 0 ≤ p.1 ∧ p.1 < n ∧ 0 ≤ p.2 ∧ p.2 < n ∧ p.1 ≠ p.2
  up : risingB ps = true
  sz : ps.length ≤ 1000
theorem decP_pr (p : Int × Int) : decP (prD p) = p := rfl
theorem Ord.okd {n : Nat} {ps : List (Int × Int)} (h : Ord n ps) : okOrd (ordD n ps) := by
  rintro m ds e
  unfold ordD at e
  injection e with e
  injection e with _ e
  injection e with e _
  injection e with e
  rw [← e, List.length_map]
  exact h.sz
theorem Ord.yes {n : Nat} {ps : List (Int × Int)} (h : Ord n ps) : orderB (ordD n ps) = true := by
  have e : orderB (ordD n ps) = (decide (1 ≤ (n : Int)) && decide ((n : Int) ≤ 8) && (ps.map prD).all (fun d => pairB d n) && risingB ((ps.map prD).map decP)) := rfl
  have e2 : (ps.map prD).map decP = ps := by
    rw [List.map_map]
    exact (List.map_congr_left fun p _ => decP_pr p).trans (List.map_id ps)
  have e3 : (ps.map prD).all (fun d => pairB d n) = true := by
    rw [List.all_map, List.all_eq_true]
    intro p hp
    obtain ⟨a, b, c, d, f⟩ := h.ix p hp
    show (wholeB (.int p.1) 0 (n - 1) && wholeB (.int p.2) 0 (n - 1) && !PyData.eqv (.int p.1) (.int p.2)) = true
    have g1 : wholeB (.int p.1) 0 (n - 1) = true := by
      show (decide (0 ≤ p.1) && decide (p.1 ≤ (n : Int) - 1)) = true
      simp; omega
    have g2 : wholeB (.int p.2) 0 (n - 1) = true := by
      show (decide (0 ≤ p.2) && decide (p.2 ≤ (n : Int) - 1)) = true
      simp; omega
    have g3 : PyData.eqv (.int p.1) (.int p.2) = false := by
      show (p.1 == p.2) = false
      simpa using f
    rw [g1, g2, g3]; rfl
  rw [e, e2, e3, h.up, decide_eq_true (by have := h.lo; omega), decide_eq_true (by have := h.hi; omega)]
  rfl
theorem is_ord {H : Hp} {x : V} {n : Nat} {ps : List (Int × Int)} (h : Is H x (ordD n ps)) : ∃ a b xs, x = .ref a ∧ H a = some (.tup [.int n, .ref b]) ∧ H b = some (.tup xs) ∧ IsAll H xs (ps.map prD) := by
  unfold ordD at h
  cases h with
  | @tup a xs _ e hxs =>
    obtain ⟨b, ys, rfl, eb, hb⟩ := two_io hxs
    exact ⟨a, _, _, rfl, e, eb, hb⟩
end
end My

set_option Elab.async false
set_option linter.all false
set_option maxRecDepth 100000
set_option maxHeartbeats 4000000
namespace My
open PySem L2
section
variable {P : Program} {w : World} {K : PySem.W.Frag} {mg : Str → Option Value} {base : Heap} {t : Ad}
set_option genSizeOf false in
set_option genInjectivity false in
inductive sp_is_step (vs : List V) (H : Hp) (Q : VK) (zz3 : XK) : Prop where
  | mk (x d : _) (zh0 : vs = [x]) (zh1 : Is H x d) (zh2 : Q (.bl (wholeB d 1 999)) H) : sp_is_step  vs H Q zz3
theorem ok_is_step (T : Txt K mg t) : FnOk P w K mg base CX0 2 t.a_is_step t.d_is_step ["value"] sp_is_step := by
  refine T.F_is_step.ok sc_is_step (fun vs H Q E h => ?_) (fun cdv A outer s H vs Q E hr h => ?_)
  · obtain ⟨x, d, rfl, _⟩ := h
    rfl
  · obtain ⟨x, d, rfl, hx, q⟩ := h
    refine ⟨_, (pss_one (ps_ret (pe_call (ok_is_whole T) (hr.mono (by decide)) rfl T.m_is_whole T.F_is_whole.kp T.b_is_whole .nil pass0 (pa_cons (pv 0) (pa_cons pe_int (pa_cons (pe_gint rfl T.c_MOST_STEP) pa_nil)))))), ?_⟩
    walk_at "rd"
    exact ⟨_, _, _, _, rfl, hx, q⟩
noncomputable def numsB (d : PyData) (a b : Int) : Bool := match d with | .tuple ds => decide (a ≤ ds.length) && decide ((ds.length : Int) ≤ b) && ds.all (fun d => wholeB d 0 9999) | _ => false
set_option genSizeOf false in
set_option genInjectivity false in
inductive sp_is_numbers (vs : List V) (H : Hp) (Q : VK) (zz3 : XK) : Prop where
  | mk (x a b d : _) (zh0 : vs = [x, .int a, .int b]) (zh1 : Is H x d) (zh2 : (∀ ds, d = .tuple ds → ds.length ≤ 1000)) (zh3 : ∀ H', Same H H' → Q (.bl (numsB d a b)) H') : sp_is_numbers  vs H Q zz3
theorem ok_is_numbers (T : Txt K mg t) : FnOk P w K mg base CX0 2 t.a_is_numbers t.d_is_numbers ["value", "fewest", "most"] sp_is_numbers := by
  refine T.F_is_numbers.ok sc_is_numbers (fun vs H Q E h => ?_) (fun cdv A outer s H vs Q E hr h => ?_)
  · obtain ⟨x, a, b, d, rfl, _⟩ := h
    rfl
  · obtain ⟨x, a, b, d, rfl, hx, hok, q⟩ := h
    refine ⟨_, (pss_cons (ps_if (PW.pt (pw_or (pt_not (pt_val (pe_callB c_isinst (by rfl) T.n_isinstance bt_isinstance (pa_cons (pv 0) (pa_cons (pe_bltn (v := .ty "tuple") rfl T.n_tuple bt_tuple rfl) pa_nil))))) (pw_or1 (pt_not (pt_chain op_le op_le (pv 1) (pe_callB (k_len K) (by rfl) T.n_len bt_len (pa_cons (pv 0) pa_nil)) (pv 2)))))) (pss_one (ps_ret pe_bl)) pss_nil)
      (pss_one (ps_ret (pe_callB (k_all K) (by rfl) T.n_all bt_all (pa_cons (pe_lc rfl ⟨True.intro, True.intro, True.intro, True.intro, True.intro⟩ (M := ["number"]) (.own .nil) (gk_name rfl) rfl (by decide +kernel) (k_ptup K (pv 0)) (fun C fp s1 H1 => ⟨pg_name (i := 0) (show (["number"] : List Str).Nodup by decide +kernel) rfl (Or.inl rfl), pif_nil, (pe_call (ok_is_whole T) (hr.mono (by decide)) rfl T.m_is_whole T.F_is_whole.kp T.b_is_whole .nil pass0 (pa_cons (pv 0) (pa_cons pe_int (pa_cons (pe_gint rfl T.c_MOST_NUMBER) pa_nil))))⟩)) pa_nil))))), ?_⟩
    walk_at "rd"
    by_cases hd : ∃ ds, d = .tuple ds
    · obtain ⟨ds, rfl⟩ := hd
      have hlen := hok _ rfl
      cases hx with
      | @tup r xs _ e hxs =>
      have hl := hxs.length
      have qe : numsB (.tuple ds) a b = (decide (a ≤ ds.length) && decide ((ds.length : Int) ≤ b) && ds.all (fun d => wholeB d 0 9999)) := rfl
      rw [qe] at q
      walk_at "rd"
      refine ifB (fun h1 => ?_) (fun h1 => ?_)
      · walk_at "rd"
        rw [hl] at h1
        refine ifB (fun h2 => ?_) (fun h2 => ?_)
        · walk_at "rd"
          have q' := q H (Same.refl H)
          have h2' : decide ((ds.length : Int) ≤ b) = false := by rw [hl] at h2; simpa using h2
          rw [h2', Bool.and_false, Bool.false_and] at q'
          exact q'
        · walk_at "rd"
          have h2' : decide ((ds.length : Int) ≤ b) = true := by rw [hl] at h2; simpa using h2
          refine ⟨r, rfl, ⟨xs, SqT.of e⟩, ?_⟩
          refine lp_tup (K := K) (xs := xs) (small_ln (by omega)) (fun i zs H' => H' = H ∧ zs = ((ds.take i).map fun d => wholeB d 0 9999).map V.bl) ⟨rfl, rfl⟩ (by rintro i ys H' ⟨_, rfl⟩; simp; omega) (fun i zs H' _ h => by rw [h.1]; exact SqT.of e) ?_ ?_
          · rintro i x zs H' hx ⟨rfl, rfl⟩
            obtain ⟨d, ed, id⟩ := hxs.get' hx
            walk_at "rd"
            refine ⟨_, _, _, _, rfl, id, rfl, ?_⟩
            rw [List.take_add_one, ed, List.map_append, List.map_append]
            rfl
          · rintro zs H' ⟨rfl, rfl⟩ p hp
            walk_at "rd"
            refine rd_all upd_same ?_
            rw [hl, List.take_length, List.all_map]
            have q' := q _ (Same.upd (o := .lst ((ds.map fun d => wholeB d 0 9999).map V.bl)) hp)
            rw [h1, h2'] at q'
            exact q'
      · walk_at "rd"
        rw [hl] at h1
        have q' := q H (Same.refl H)
        rw [h1, Bool.false_and, Bool.false_and] at q'
        exact q'
    · have hd' : ∀ ds, d ≠ .tuple ds := fun ds e => hd ⟨ds, e⟩
      rw [isTup_no hd']
      walk_at "rd"
      have q' := q H (Same.refl H)
      have e : numsB d a b = false := by
        unfold numsB
        split
        · exact absurd rfl (hd' _)
        · rfl
      rw [e] at q'
      exact q'
set_option genSizeOf false in
set_option genInjectivity false in
inductive sp_need_step (vs : List V) (H : Hp) (Q : VK) (zz3 : XK) : Prop where
  | mk (x d : _) (zh0 : vs = [x]) (zh1 : Is H x d) (zh2 : wholeB d 1 999 = true) (zh3 : Q .non H) : sp_need_step  vs H Q zz3
theorem ok_need_step (T : Txt K mg t) : FnOk P w K mg base CX0 3 t.a_need_step t.d_need_step ["value"] sp_need_step := by
  refine T.F_need_step.ok sc_need_step (fun vs H Q E h => ?_) (fun cdv A outer s H vs Q E hr h => ?_)
  · obtain ⟨x, d, rfl, _⟩ := h
    rfl
  · obtain ⟨x, d, rfl, hx, ho, q⟩ := h
    refine ⟨_, (pss_one (ps_if (pt_not (pt_val (pe_call (ok_is_step T) (hr.mono (by decide)) rfl T.m_is_step T.F_is_step.kp T.b_is_step .nil pass0 (pa_cons (pv 0) pa_nil)))) (pss_one ps_never) pss_nil)), ?_⟩
    walk_at "rd"
    refine ⟨_, _, rfl, hx, ?_⟩
    rw [ho]
    walk_at "rd"
    exact q
set_option genSizeOf false in
set_option genInjectivity false in
inductive sp_need_numbers (vs : List V) (H : Hp) (Q : VK) (zz3 : XK) : Prop where
  | mk (x a b d : _) (zh0 : vs = [x, .int a, .int b]) (zh1 : Is H x d) (zh2 : (∀ ds, d = .tuple ds → ds.length ≤ 1000)) (zh3 : numsB d a b = true) (zh4 : ∀ H', Same H H' → Q .non H') : sp_need_numbers  vs H Q zz3
theorem ok_need_numbers (T : Txt K mg t) : FnOk P w K mg base CX0 3 t.a_need_numbers t.d_need_numbers ["value", "fewest", "most"] sp_need_numbers := by
  refine T.F_need_numbers.ok sc_need_numbers (fun vs H Q E h => ?_) (fun cdv A outer s H vs Q E hr h => ?_)
  · obtain ⟨x, a, b, d, rfl, _⟩ := h
    rfl
  · obtain ⟨x, a, b, d, rfl, hx, hok, ho, q⟩ := h
    refine ⟨_, (pss_one (ps_if (pt_not (pt_val (pe_call (ok_is_numbers T) (hr.mono (by decide)) rfl T.m_is_numbers T.F_is_numbers.kp T.b_is_numbers .nil pass0 (pa_cons (pv 0) (pa_cons (pv 1) (pa_cons (pv 2) pa_nil)))))) (pss_one ps_never) pss_nil)), ?_⟩
    walk_at "rd"
    refine ⟨_, _, _, _, rfl, hx, hok, fun H' s' => ?_⟩
    rw [ho]
    walk_at "rd"
    exact q H' s'
end
end My

set_option Elab.async false
set_option linter.all false
set_option maxRecDepth 100000
set_option maxHeartbeats 4000000
namespace My
open PySem L2
section
variable {P : Program} {w : World} {K : PySem.W.Frag} {mg : Str → Option Value} {base : Heap} {t : Ad}
noncomputable def tlI (st : Int) (vals : List Int) (i j : Nat) : List (Int × Int) := if vals.getD j 0 - vals.getD i 0 ≥ st then [((i : Int), (j : Int))] else []
noncomputable def tlRow (st : Int) (vals : List Int) (i m : Nat) : List (Int × Int) := (List.range m).flatMap (tlI st vals i)
noncomputable def tlAll (st : Int) (vals : List Int) (m : Nat) : List (Int × Int) := (List.range m).flatMap fun i => tlRow st vals i vals.length
noncomputable def toldL (st : Int) (vals : List Int) : List (Int × Int) := tlAll st vals vals.length
theorem tlRow_succ (st : Int) (vals : List Int) (i m : Nat) : tlRow st vals i (m + 1) = tlRow st vals i m ++ tlI st vals i m := by
  unfold tlRow
  rw [List.range_succ, List.flatMap_append]
  simp
theorem tlAll_succ (st : Int) (vals : List Int) (m : Nat) : tlAll st vals (m + 1) = tlAll st vals m ++ tlRow st vals m vals.length := by
  unfold tlAll
  rw [List.range_succ, List.flatMap_append]
  simp
theorem tlI_len (st : Int) (vals : List Int) (i j : Nat) : (tlI st vals i j).length ≤ 1 := by
  unfold tlI
  split
  · exact Nat.le_refl _
  · exact Nat.zero_le _
theorem tlRow_len (st : Int) (vals : List Int) (i : Nat) : ∀ m, (tlRow st vals i m).length ≤ m
  | 0 => Nat.le_refl _
  | m + 1 => by
    rw [tlRow_succ, List.length_append]
    have := tlRow_len st vals i m
    have := tlI_len st vals i m
    omega
theorem tlAll_len (st : Int) (vals : List Int) : ∀ m, (tlAll st vals m).length ≤ m * vals.length
  | 0 => Nat.zero_le _
  | m + 1 => by
    rw [tlAll_succ, List.length_append, Nat.succ_mul]
    have := tlAll_len st vals m
    have := tlRow_len st vals m vals.length
    omega
theorem noLs_pr : ∀ ds : List (Int × Int), noLs (ds.map prD) = true
  | [] => rfl
  | d :: ds => by
    rw [List.map_cons, noLs, noLs_pr ds]
    rfl
theorem eqvAll_pr : ∀ ps qs : List (Int × Int), PyData.eqvAll (ps.map prD) (qs.map prD) = decide (ps = qs)
  | [], [] => rfl
  | [], _ :: _ => rfl
  | _ :: _, [] => rfl
  | p :: ps, q :: qs => by
    rw [List.map_cons, List.map_cons, PyData.eqvAll, eqv_pr, eqvAll_pr ps qs]
    by_cases h : p = q
    · by_cases h2 : ps = qs
      · subst h h2; simp
      · simp [h, h2]
    · simp [h]
theorem ok_prT (ps : List (Int × Int)) : okD (.tuple (ps.map prD)) := by
  have h := ok_prs ps
  refine ⟨?_, ?_⟩
  · rw [PyData.canLay0]; exact h.1
  · rw [PyData.depth]
    have : PyData.depthAll (ps.map prD) ≤ 1 := by
      clear h
      induction ps with
      | nil => exact Nat.zero_le _
      | cons p ps ih =>
        rw [List.map_cons, PyData.depthAll]
        exact Nat.max_le.mpr ⟨Nat.le_refl _, ih⟩
    omega
noncomputable abbrev ltP (p q : Int × Int) : Prop := HT.lexLt [p.1, p.2] [q.1, q.2] = true
theorem ltP_of {p q : Int × Int} (h : p.1 < q.1 ∨ (p.1 = q.1 ∧ p.2 < q.2)) : ltP p q := by
  show HT.lexLt [p.1, p.2] [q.1, q.2] = true
  rw [HT.lexLt_cons]
  rcases h with h | ⟨h1, h2⟩
  · rw [if_neg (by omega)]
    exact decide_eq_true h
  · rw [if_pos h1, HT.lexLt_cons, if_neg (by omega)]
    exact decide_eq_true h2
theorem mem_tlI {st : Int} {vals : List Int} {i j : Nat} {p : Int × Int} : p ∈ tlI st vals i j ↔ p = ((i : Int), (j : Int)) ∧ vals.getD j 0 - vals.getD i 0 ≥ st := by
  unfold tlI
  split
  · rename_i h
    rw [List.mem_singleton]
    exact ⟨fun e => ⟨e, h⟩, fun e => e.1⟩
  · rename_i h
    constructor
    · intro e; cases e
    · intro e; exact absurd e.2 h
theorem mem_tlRow {st : Int} {vals : List Int} {i m : Nat} {p : Int × Int} : p ∈ tlRow st vals i m ↔ ∃ j, j < m ∧ p = ((i : Int), (j : Int)) ∧ vals.getD j 0 - vals.getD i 0 ≥ st := by
  unfold tlRow
  rw [List.mem_flatMap]
  constructor
  · rintro ⟨j, hj, h⟩
    exact ⟨j, List.mem_range.mp hj, mem_tlI.mp h⟩
  · rintro ⟨j, hj, h⟩
    exact ⟨j, List.mem_range.mpr hj, mem_tlI.mpr h⟩
theorem mem_tlAll {st : Int} {vals : List Int} {m : Nat} {p : Int × Int} : p ∈ tlAll st vals m ↔ ∃ i j, i < m ∧ j < vals.length ∧ p = ((i : Int), (j : Int)) ∧ vals.getD j 0 - vals.getD i 0 ≥ st := by
  unfold tlAll
  rw [List.mem_flatMap]
  constructor
  · rintro ⟨i, hi, h⟩
    obtain ⟨j, hj, e, g⟩ := mem_tlRow.mp h
    exact ⟨i, j, List.mem_range.mp hi, hj, e, g⟩
  · rintro ⟨i, j, hi, hj, e, g⟩
    exact ⟨i, List.mem_range.mpr hi, mem_tlRow.mpr ⟨j, hj, e, g⟩⟩
theorem row_up (st : Int) (vals : List Int) (i : Nat) : ∀ m, (tlRow st vals i m).Pairwise ltP
  | 0 => .nil
  | m + 1 => by
    rw [tlRow_succ, List.pairwise_append]
    refine ⟨row_up st vals i m, ?_, fun p hp q hq => ?_⟩
    · unfold tlI
      split
      · exact List.pairwise_singleton _ _
      · exact .nil
    · obtain ⟨j, hj, rfl, _⟩ := mem_tlRow.mp hp
      obtain ⟨rfl, _⟩ := mem_tlI.mp hq
      exact ltP_of (.inr ⟨rfl, by show (j : Int) < m; omega⟩)
theorem all_up (st : Int) (vals : List Int) : ∀ m, (tlAll st vals m).Pairwise ltP
  | 0 => .nil
  | m + 1 => by
    rw [tlAll_succ, List.pairwise_append]
    refine ⟨all_up st vals m, row_up st vals m _, fun p hp q hq => ?_⟩
    obtain ⟨i, j, hi, hj, rfl, _⟩ := mem_tlAll.mp hp
    obtain ⟨j', _, rfl, _⟩ := mem_tlRow.mp hq
    exact ltP_of (.inl (by show (i : Int) < m; omega))
theorem rising_of : ∀ {ps : List (Int × Int)}, ps.Pairwise ltP → risingB ps = true
  | [], _ => rfl
  | [_], _ => rfl
  | a :: b :: r, h => by
    rw [risingB, rising_of (List.pairwise_cons.mp h).2, (List.pairwise_cons.mp h).1 b List.mem_cons_self]
    rfl
theorem row_len {st : Int} (hs : 1 ≤ st) {vals : List Int} {i : Nat} : ∀ m, i < m → (tlRow st vals i m).length + 1 ≤ m
  | 0, h => by omega
  | m + 1, h => by
    rw [tlRow_succ, List.length_append]
    by_cases e : i = m
    · subst e
      have : tlI st vals i i = [] := by
        unfold tlI
        rw [if_neg (by omega)]
      rw [this]
      have := tlRow_len st vals i i
      simp only [List.length_nil]
      omega
    · have a := row_len (i := i) hs (vals := vals) m (by omega)
      have b := tlI_len st vals i m
      omega
theorem all_len {st : Int} (hs : 1 ≤ st) {vals : List Int} : ∀ m, m ≤ vals.length → (tlAll st vals m).length + m ≤ m * vals.length
  | 0, _ => by simp [tlAll]
  | m + 1, h => by
    rw [tlAll_succ, List.length_append, Nat.succ_mul]
    have a := all_len hs (vals := vals) m (by omega)
    have b := row_len hs (vals := vals) (i := m) vals.length (by omega)
    omega
theorem told_len {st : Int} (hs : 1 ≤ st) {vals : List Int} (h1 : 1 ≤ vals.length) (h8 : vals.length ≤ 8) : (toldL st vals).length < 64 := by
  have a := all_len hs (vals := vals) vals.length (Nat.le_refl _)
  have b : vals.length * vals.length ≤ 8 * 8 := Nat.mul_le_mul h8 h8
  unfold toldL
  omega
theorem told_ord {st : Int} (hs : 1 ≤ st) {vals : List Int} (h1 : 1 ≤ vals.length) (h8 : vals.length ≤ 8) : Ord vals.length (toldL st vals) where
  lo := h1
  hi := h8
  ix := fun p hp => by
    obtain ⟨i, j, hi, hj, rfl, g⟩ := mem_tlAll.mp hp
    refine ⟨by show (0 : Int) ≤ i; omega, by show (i : Int) < vals.length; omega, by show (0 : Int) ≤ j; omega, by show (j : Int) < vals.length; omega, ?_⟩
    intro e
    have e' : (i : Int) = j := e
    have : i = j := by omega
    subst this
    omega
  up := rising_of (all_up st vals _)
  sz := by
    have := told_len hs h1 h8
    omega
end
end My

set_option Elab.async false
set_option linter.all false
set_option maxRecDepth 100000
set_option maxHeartbeats 4000000
namespace My
open PySem L2
section
variable {P : Program} {w : World} {K : PySem.W.Frag} {mg : Str → Option Value} {base : Heap} {t : Ad}
/-- a list that grows -/
theorem grow {H : Hp} {l p : Addr} {xs ys : List V} {d : PyData} {ds : List PyData} (hn : noLs ds = true) (hl : H l = some (.lst xs)) (hp : H p = none) (h : IsAll H xs ds) (hd : Is (upd (upd H p (.tup ys)) l (.lst (xs ++ [.ref p]))) (.ref p) d) :
    IsAll (upd (upd H p (.tup ys)) l (.lst (xs ++ [.ref p]))) (xs ++ [.ref p]) (ds ++ [d]) := by
  refine IsAll.snoc (h.tmono (fun a zs e => ?_) hn) hd
  have h1 : a ≠ l := ne_of e hl (by intro z; cases z)
  have h2 : a ≠ p := ne_of_none e hp
  rw [upd_ne h1, upd_ne h2]
  exact e
theorem getD_map {vals : List Int} {i : Nat} (hi : i < vals.length) : (vals.map V.int)[i]? = some (.int (vals.getD i 0)) := by
  rw [List.getElem?_map]
  simp [hi]
end
end My

set_option Elab.async false
set_option linter.all false
set_option maxRecDepth 100000
set_option maxHeartbeats 4000000
namespace My
open PySem L2
section
variable {P : Program} {w : World} {K : PySem.W.Frag} {mg : Str → Option Value} {base : Heap} {t : Ad}
set_option genSizeOf false in
set_option genInjectivity false in
inductive sp_told_pairs (vs : List V) (H : Hp) (Q : VK) (zz3 : XK) : Prop where
  | mk (a st vals : _) (zh0 : vs = [.int st, .ref a]) (zh1 : H a = some (.tup (vals.map V.int))) (zh2 : vals.length ≤ 8) (zh3 : ∀ p H', Same H H' → Is H' (.ref p) (.tuple ((toldL st vals).map prD)) → Q (.ref p) H') : sp_told_pairs  vs H Q zz3
theorem ok_told_pairs (T : Txt K mg t) : FnOk P w K mg base CX0 1 t.a_told_pairs t.d_told_pairs ["step", "numbers"] sp_told_pairs := by
  refine T.F_told_pairs.ok sc_told_pairs (fun vs H Q E h => ?_) (fun cdv A outer s H vs Q E hr h => ?_)
  · obtain ⟨a, st, vals, rfl, _⟩ := h
    rfl
  · obtain ⟨a, st, vals, rfl, ea, hn, q⟩ := h
    refine ⟨_, (pss_cons (ps_set (i := 2) sc_told_pairs.nd rfl (Or.inl rfl) (pe_lst pa_nil))
      (pss_cons (ps_for PassesOwn.never rfl (pi_range1 rfl T.n_range (pa_cons (pe_callB (k_len K) (by rfl) T.n_len bt_len (pa_cons (pv 1) pa_nil)) pa_nil)) (pg_name (i := 3) sc_told_pairs.nd rfl (Or.inl rfl)) (pss_one (ps_for PassesOwn.never rfl (pi_range1 rfl T.n_range (pa_cons (pe_callB (k_len K) (by rfl) T.n_len bt_len (pa_cons (pv 1) pa_nil)) pa_nil)) (pg_name (i := 4) sc_told_pairs.nd rfl (Or.inl rfl)) (pss_one (ps_if (pt_cmpR (op_ge) (pe_op op_sub (pe_ix (k_ix K) (pv 1) (pv 4) (fun _ _ => rfl)) (pe_ix (k_ix K) (pv 1) (pv 3) (fun _ _ => rfl))) (pv 0) (nomark _)) (pss_one (ps_expr (k_bm K PySem.F.plainAttrs_list PySem.F.slot_list_append PySem.F.type_list_append mt_append (pv 2) (pa_cons (pe_tup (pa_cons (pv 3) (pa_cons (pv 4) pa_nil))) pa_nil)))) pss_nil)))))
      (pss_one (ps_ret (pe_callTy (k_tuple K) (by rfl) T.n_tuple bt_tuple (pa_cons (pv 2) pa_nil)))))), ?_⟩
    walk_at "rd"
    refine ⟨Nat.zero_le _, fun l hl => ?_⟩
    have s0 := Same.upd (o := .lst []) hl
    have ea0 := s0 _ _ ea
    walk_at "rd"
    rw [List.length_map]
    refine ⟨_, rfl, by omega, by omega, ?_⟩
    rw [Int.toNat_natCast]
    refine fp_range (fun i σ H' => (∃ va vb, σ = [some (.int st), some (.ref a), some (.ref l), va, vb]) ∧ Same H H' ∧ ∃ zs, H' l = some (.lst zs) ∧ IsAll H' zs ((tlAll st vals i).map prD)) ⟨⟨_, _, rfl⟩, s0, [], upd_same, .nil⟩ ?_ ?_
    · rintro i σ H1 hi ⟨⟨va, vb, rfl⟩, s1, zs, hz, iz⟩
      have ea1 := s1 _ _ ea
      walk_at "rd"
      rw [List.length_map]
      refine ⟨_, rfl, by omega, by omega, ?_⟩
      rw [Int.toNat_natCast]
      refine fp_range (fun j σ H' => (∃ vb, σ = [some (.int st), some (.ref a), some (.ref l), some (.int (0 + i)), vb]) ∧ Same H H' ∧ ∃ zs, H' l = some (.lst zs) ∧ IsAll H' zs ((tlAll st vals i ++ tlRow st vals i j).map prD)) ⟨⟨_, rfl⟩, s1, zs, hz, by simpa [tlRow] using iz⟩ ?_ ?_
      · rintro j σ H2 hj ⟨⟨vb, rfl⟩, s2, zs2, hz2, iz2⟩
        have ea2 := s2 _ _ ea
        have dE : tlAll st vals i ++ tlRow st vals i (j + 1) = tlAll st vals i ++ tlRow st vals i j ++ tlI st vals i j := by rw [tlRow_succ, List.append_assoc]
        rw [dE]
        walk_at "rd"
        refine rd_ixT ea2 (atI_of (Int.zero_add _) (getD_map hj)) ?_
        walk_at "rd"
        refine rd_ixT ea2 (atI_of (Int.zero_add _) (getD_map hi)) ?_
        walk_at "rd"
        refine ifB (fun h1 => ?_) (fun h1 => ?_)
        · have h1' : vals.getD j 0 - vals.getD i 0 ≥ st := of_decide_eq_true h1
          walk_at "rd"
          refine ⟨tyV_lst hz2, ?_⟩
          walk_at "rd"
          refine ⟨two_ln, fun p hp => ?_⟩
          have hlp : l ≠ p := ne_of_none hz2 hp
          have hlen : zs2.length ≤ 8 * 8 + 8 := by
            rw [iz2.length, List.length_map, List.length_append]
            have h1 := tlAll_len st vals i
            have h2 := tlRow_len st vals i j
            have h3 : i * vals.length ≤ 8 * 8 := Nat.mul_le_mul (by omega) hn
            omega
          walk_at "rd"
          refine rd_append (xs := zs2) ?_ (small1000 (by omega)) ?_
          · rw [upd_ne hlp]
            exact hz2
          walk_at "rd"
          refine ⟨⟨_, rfl⟩, fun c u e => ?_, _, upd_same, ?_⟩
          · have e3 := s2 c u e
            rw [upd_ne (ne_of_none e hl), upd_ne (ne_of_none e3 hp)]
            exact e3
          · have e1 : tlI st vals i j = [((i : Int), (j : Int))] := by unfold tlI; rw [if_pos h1']
            rw [e1, List.map_append, Int.zero_add, Int.zero_add]
            refine grow (noLs_pr _) hz2 hp iz2 (.tup ?_ (.cons (.int _) (.cons (.int _) .nil)))
            rw [upd_ne (Ne.symm hlp), upd_same]
        · have h1' : ¬ vals.getD j 0 - vals.getD i 0 ≥ st := of_decide_eq_false h1
          walk_at "rd"
          refine ⟨⟨_, rfl⟩, s2, zs2, hz2, ?_⟩
          unfold tlI
          rw [if_neg h1', List.append_nil]
          exact iz2
      · rintro σ H2 ⟨⟨vb, rfl⟩, s2, zs2, hz2, iz2⟩
        exact ⟨⟨_, _, rfl⟩, s2, zs2, hz2, by rw [tlAll_succ]; exact iz2⟩
    · rintro σ H1 ⟨⟨va, vb, rfl⟩, s1, zs, hz, iz⟩
      walk_at "rd"
      intro p hp
      have s2 := Same.upd (o := .tup zs) hp
      exact q p _ (s1.trans s2) (.tup upd_same (iz.same s2))
theorem nums_ok {vals : List Int} {n : Nat} (hl : vals.length = n) (hv : ∀ v ∈ vals, 0 ≤ v ∧ v ≤ 9999) : numsB (.tuple (vals.map .int)) n n = true := by
  show (decide ((n : Int) ≤ ((vals.map PyData.int).length : Nat)) && decide ((((vals.map PyData.int).length : Nat) : Int) ≤ n) && (vals.map PyData.int).all (fun d => wholeB d 0 9999)) = true
  rw [List.length_map, hl]
  have : (vals.map PyData.int).all (fun d => wholeB d 0 9999) = true := by
    rw [List.all_map, List.all_eq_true]
    intro v hm
    obtain ⟨a, b⟩ := hv v hm
    show (decide (0 ≤ v) && decide (v ≤ 9999)) = true
    simp [a, b]
  rw [this]
  simp
end
end My

set_option Elab.async false
set_option linter.all false
set_option maxRecDepth 100000
set_option maxHeartbeats 4000000
namespace My
open PySem L2
section
variable {P : Program} {w : World} {K : PySem.W.Frag} {mg : Str → Option Value} {base : Heap} {t : Ad}
theorem step_ok {st : Int} (h1 : 1 ≤ st) (h2 : st ≤ 999) : wholeB (.int st) 1 999 = true := by
  show (decide (1 ≤ st) && decide (st ≤ 999)) = true
  simp [h1, h2]
set_option genSizeOf false in
set_option genInjectivity false in
inductive sp_fits (vs : List V) (H : Hp) (Q : VK) (zz3 : XK) : Prop where
  | mk (x a n ps st vals : _) (zh0 : vs = [x, .int st, .ref a]) (zh1 : Is H x (ordD n ps)) (zh2 : Ord n ps) (zh3 : 1 ≤ st) (zh4 : st ≤ 999) (zh5 : H a = some (.tup (vals.map V.int))) (zh6 : vals.length = n) (zh7 : (∀ v ∈ vals, 0 ≤ v ∧ v ≤ 9999)) (zh8 : ∀ H', Same H H' → Q (.bl (decide (toldL st vals = ps))) H') : sp_fits  vs H Q zz3
theorem ok_fits (T : Txt K mg t) : FnOk P w K mg base CX0 6 t.a_fits t.d_fits ["order", "step", "numbers"] sp_fits := by
  refine T.F_fits.ok sc_fits (fun vs H Q E h => ?_) (fun cdv A outer s H vs Q E hr h => ?_)
  · obtain ⟨x, a, n, ps, st, vals, rfl, _⟩ := h
    rfl
  · obtain ⟨x, a, n, ps, st, vals, rfl, hx, ho, h1, h2, ea, hl, hv, q⟩ := h
    refine ⟨_, (pss_cons (ps_expr (pe_call (ok_need_order T) (hr.mono (by decide)) rfl T.m_need_order T.F_need_order.kp T.b_need_order .nil pass0 (pa_cons (pv 0) pa_nil)))
      (pss_cons (ps_expr (pe_call (ok_need_step T) (hr.mono (by decide)) rfl T.m_need_step T.F_need_step.kp T.b_need_step .nil pass0 (pa_cons (pv 1) pa_nil)))
      (pss_cons (ps_expr (pe_call (ok_need_numbers T) (hr.mono (by decide)) rfl T.m_need_numbers T.F_need_numbers.kp T.b_need_numbers .nil pass0 (pa_cons (pv 2) (pa_cons (pe_ix (k_ix K) (pv 0) pe_int (fun _ _ => rfl)) (pa_cons (pe_ix (k_ix K) (pv 0) pe_int (fun _ _ => rfl)) pa_nil)))))
      (pss_one (ps_ret (pe_cmpR (op_eqD hr.units) (pe_call (ok_told_pairs T) (hr.mono (by decide)) rfl T.m_told_pairs T.F_told_pairs.kp T.b_told_pairs .nil pass0 (pa_cons (pv 1) (pa_cons (pv 2) pa_nil))) (pe_ix (k_ix K) (pv 0) pe_int (fun _ _ => rfl)) (nomark _))))))), ?_⟩
    have hn := ho.hi
    walk_at "rd"
    refine ⟨_, _, rfl, hx, ho.okd, ho.yes, fun H1 s1 => ?_⟩
    walk_at "rd"
    refine ⟨_, _, rfl, .int st, step_ok h1 h2, ?_⟩
    obtain ⟨c, b, xs, rfl, ec, eb, hxs⟩ := is_ord (hx.same s1)
    have ea1 := s1 _ _ ea
    walk_at "rd"
    refine ⟨_, _, _, _, rfl, .tup ea1 (IsAll.ints vals), ?_, nums_ok hl hv, fun H2 s2 => ?_⟩
    · rintro ds ⟨⟩
      rw [List.length_map]
      omega
    have ea2 := s2 _ _ ea1
    walk_at "rd"
    refine ⟨a, st, vals, rfl, ea2, by omega, fun p H3 s3 ip => ?_⟩
    have ec3 := s3 _ _ (s2 _ _ ec)
    have eb3 := s3 _ _ (s2 _ _ eb)
    walk_at "rd"
    refine rd_eqD ip (.tup eb3 (hxs.same (s2.trans s3))) (ok_prT _) (ok_prT _) ?_
    have : PyData.eqv (.tuple ((toldL st vals).map prD)) (.tuple (ps.map prD)) = decide (toldL st vals = ps) := by
      rw [PyData.eqv]; exact eqvAll_pr _ _
    rw [this]
    exact q H3 ((s1.trans s2).trans s3)
end
end My

set_option Elab.async false
set_option linter.all false
set_option maxRecDepth 100000
set_option maxHeartbeats 4000000
namespace My
open PySem L2
section
variable {P : Program} {w : World} {K : PySem.W.Frag} {mg : Str → Option Value} {base : Heap} {t : Ad}
/-! orders by what they hold -/
theorem filter_one {α : Type} (f : α → Bool) (x : α) : [x].filter f = if f x = true then [x] else [] := by
  cases h : f x <;> simp [h]
theorem lt_asym (p q : Int × Int) : ltP p q → ¬ ltP q p := fun h1 h2 => by
  have h2' : HT.lexLt [q.1, q.2] [p.1, p.2] = true := h2
  rw [lex_asym h1] at h2'
  cases h2'
theorem pw_of : ∀ {ps : List (Int × Int)}, risingB ps = true → ps.Pairwise ltP
  | [], _ => .nil
  | [_], _ => List.pairwise_singleton _ _
  | a :: b :: r, h => by
    rw [risingB, Bool.and_eq_true] at h
    have ih := pw_of h.2
    refine List.pairwise_cons.mpr ⟨fun x hx => ?_, ih⟩
    rcases List.mem_cons.mp hx with rfl | hx
    · exact h.1
    · exact lex_tr h.1 ((List.pairwise_cons.mp ih).1 x hx)
theorem has_iff {ps : List (Int × Int)} {i j : Int} : has ps i j = true ↔ (i, j) ∈ ps := by
  unfold has
  exact decide_eq_true_iff
theorem nd_of {ps : List (Int × Int)} (h : ps.Pairwise ltP) : ps.Nodup := by
  refine List.Pairwise.imp (fun {a b} hab z => ?_) h
  subst z
  exact lt_asym _ _ hab hab
theorem nat_len : ∀ (m : Nat) (l : List Nat), l.Nodup → (∀ x ∈ l, x < m) → l.length ≤ m
  | 0, [], _, _ => Nat.le_refl _
  | 0, x :: _, _, h => absurd (h x List.mem_cons_self) (Nat.not_lt_zero _)
  | m + 1, l, nd, h => by
    by_cases hm : m ∈ l
    · have := nat_len m (l.erase m) (nd.erase m) fun x hx => by
        have := (List.Nodup.mem_erase_iff nd).mp hx
        have := h x this.2
        omega
      rw [List.length_erase_of_mem hm] at this
      omega
    · have := nat_len m l nd fun x hx => by
        have h1 := h x hx
        have : x ≠ m := fun z => hm (z ▸ hx)
        omega
      omega
noncomputable def inBox (p : Int × Int) : Prop := 0 ≤ p.1 ∧ p.1 < 8 ∧ 0 ≤ p.2 ∧ p.2 < 8 ∧ p.1 ≠ p.2
theorem small_prs {ps : List (Int × Int)} (nd : ps.Nodup) (h : ∀ p ∈ ps, inBox p) : ps.length < 64 := by
  have e := nat_len 63 (ps.map fun p => (8 * p.1 + p.2).toNat) (by
    unfold List.Nodup
    rw [List.pairwise_map]
    refine List.Pairwise.imp_of_mem (fun {a b} ha hb hab z => hab ?_) nd
    obtain ⟨a1, a2, a3, a4, _⟩ := h a ha
    obtain ⟨b1, b2, b3, b4, _⟩ := h b hb
    have : 8 * a.1 + a.2 = 8 * b.1 + b.2 := by omega
    exact Prod.ext (by omega) (by omega)) (fun x hx => by
    obtain ⟨p, hp, rfl⟩ := List.mem_map.mp hx
    obtain ⟨a1, a2, a3, a4, _⟩ := h p hp
    show (8 * p.1 + p.2).toNat < 63
    omega)
  rw [List.length_map] at e
  omega
noncomputable def inN (n : Nat) (p : Int × Int) : Prop := 0 ≤ p.1 ∧ p.1 < n ∧ 0 ≤ p.2 ∧ p.2 < n ∧ p.1 ≠ p.2
theorem inN.box {n : Nat} (h8 : n ≤ 8) {p : Int × Int} (h : inN n p) : inBox p := by
  obtain ⟨a, b, c, d, e⟩ := h
  exact ⟨a, by omega, c, by omega, e⟩
theorem ord_of {n : Nat} {ps : List (Int × Int)} (lo : 1 ≤ n) (hi : n ≤ 8) (ix : ∀ p ∈ ps, inN n p) (up : ps.Pairwise ltP) : Ord n ps :=
  ⟨lo, hi, ix, rising_of up, Nat.le_of_lt (Nat.lt_of_lt_of_le (small_prs (nd_of up) fun p hp => (ix p hp).box hi) (by decide))⟩
theorem Ord.box {n : Nat} {ps : List (Int × Int)} (h : Ord n ps) {p : Int × Int} (hp : p ∈ ps) : inBox p := inN.box h.hi (h.ix p hp)
theorem Ord.small {n : Nat} {ps : List (Int × Int)} (h : Ord n ps) : ps.length < 64 := small_prs (nd_of (pw_of h.up)) fun _ hp => h.box hp
theorem Ord.in {n : Nat} {ps : List (Int × Int)} (h : Ord n ps) {i j : Int} (g : has ps i j = true) : inN n (i, j) := h.ix _ (has_iff.mp g)
/-- sorted of a list of pairs -/
theorem rd_sortP {H : Hp} {Q : VK} {p : Addr} {vs : List V} {ps : List (Int × Int)} (e : H p = some (.lst vs) ∨ H p = some (.tup vs)) (hv : IsAll H vs (ps.map prD)) (nd : ps.Nodup) (hb : ∀ p ∈ ps, inBox p)
    (h : ∀ (l : Addr) (vs' : List V) (ps' : List (Int × Int)), H l = none → IsAll H vs' (ps'.map prD) → ps'.Perm ps → ps'.Pairwise ltP → Q (.ref l) (upd H l (.lst vs'))) : rSorted K [.ref p] H Q := by
  have tn : ∀ ps : List (Int × Int), (ps.map fun p => [p.1, p.2]).map (tupOf []) = ps.map prD := fun ps => by rw [List.map_map]; rfl
  refine ⟨p, vs, [], ps.map fun p => [p.1, p.2], 2, rfl, e.elim (fun e => .inl (SqL.of e)) (fun e => .inr (SqT.of e)), by rw [tn]; exact hv, ?_, by decide, ?_, by rw [List.length_map]; exact small_prs nd hb, fun l vs' nss' hl ha hp hw => ?_⟩
  · intro ns hm
    obtain ⟨q, _, rfl⟩ := List.mem_map.mp hm
    rfl
  · unfold List.Nodup
    rw [List.pairwise_map]
    refine List.Pairwise.imp (fun {a b} hab z => hab ?_) nd
    injection z with z1 z2
    injection z2 with z2 _
    exact Prod.ext z1 z2
  · have key : ∀ l : List (List Int), (∀ ns ∈ l, ∃ a b, ns = [a, b]) → l = (l.map fun ns => (ns.getD 0 0, ns.getD 1 0)).map fun p => [p.1, p.2] := fun l hl => by
      induction l with
      | nil => rfl
      | cons x l ih =>
        obtain ⟨a, b, rfl⟩ := hl x List.mem_cons_self
        rw [List.map_cons, List.map_cons, ← ih fun ns hns => hl ns (List.mem_cons_of_mem _ hns)]
        rfl
    have e' := key nss' fun ns hns => by
      obtain ⟨q, _, rfl⟩ := List.mem_map.mp (hp.mem_iff.mp hns)
      exact ⟨_, _, rfl⟩
    generalize nss'.map (fun ns => (ns.getD 0 0, ns.getD 1 0)) = ps' at e'
    subst e'
    rw [tn] at ha
    have hw' := List.pairwise_map.mp hw
    refine h l vs' ps' hl ha ?_ hw'
    have h2 := hp.map fun ns : List Int => (ns.getD 0 0, ns.getD 1 0)
    rw [List.map_map, List.map_map] at h2
    have e1 : ∀ l : List (Int × Int), l.map ((fun ns : List Int => (ns.getD 0 0, ns.getD 1 0)) ∘ fun p => [p.1, p.2]) = l := fun l => by
      refine (List.map_congr_left fun p _ => ?_).trans (List.map_id l)
      rfl
    rw [e1, e1] at h2
    exact h2
theorem eqv_ord (n m : Nat) (ps qs : List (Int × Int)) : PyData.eqv (ordD n ps) (ordD m qs) = decide (n = m ∧ ps = qs) := by
  unfold ordD
  rw [PyData.eqv, PyData.eqvAll, PyData.eqvAll, PyData.eqvAll, PyData.eqv, PyData.eqv, eqvAll_pr]
  by_cases h : n = m
  · by_cases h2 : ps = qs
    · subst h h2; simp
    · simp [h, h2]
  · have : ¬ ((n : Int) = (m : Int)) := by omega
    simp [h, this]
theorem ok_ord (n : Nat) (ps : List (Int × Int)) : okD (ordD n ps) := by
  obtain ⟨a, b⟩ := ok_prT ps
  have hd : PyData.depth (.tuple (ps.map prD)) ≤ 2 := by
    rw [PyData.depth]
    have : PyData.depthAll (ps.map prD) ≤ 1 := by
      clear a b
      induction ps with
      | nil => exact Nat.zero_le _
      | cons p ps ih =>
        rw [List.map_cons, PyData.depthAll]
        exact Nat.max_le.mpr ⟨Nat.le_refl _, ih⟩
    omega
  refine ⟨?_, ?_⟩
  · unfold ordD
    rw [PyData.canLay0, PyData.canLayAll0, PyData.canLayAll0, a]
    rfl
  · unfold ordD
    rw [PyData.depth, PyData.depthAll, PyData.depthAll, PyData.depthAll]
    have : PyData.depth (.int (n : Int)) = 0 := rfl
    omega
/-- two orders compared -/
theorem rd_eqO {H : Hp} {Q : VK} {x y : V} {n m : Nat} {ps qs : List (Int × Int)} (hx : Is H x (ordD n ps)) (hy : Is H y (ordD m qs)) (h : Q (.bl (decide (n = m ∧ ps = qs))) H) : rEqD false x y H Q :=
  rd_eqD hx hy (ok_ord n ps) (ok_ord m qs) (by rw [eqv_ord]; exact h)
theorem rd_neO {H : Hp} {Q : VK} {x y : V} {n m : Nat} {ps qs : List (Int × Int)} (hx : Is H x (ordD n ps)) (hy : Is H y (ordD m qs)) (h : Q (.bl (!decide (n = m ∧ ps = qs))) H) : rEqD true x y H Q :=
  rd_eqD hx hy (ok_ord n ps) (ok_ord m qs) (by rw [eqv_ord]; exact h)
/-- lists of ints compared -/
theorem eqvAll_ints : ∀ as bs : List Int, PyData.eqvAll (as.map .int) (bs.map .int) = decide (as = bs)
  | [], [] => rfl
  | [], _ :: _ => rfl
  | _ :: _, [] => rfl
  | a :: as, b :: bs => by
    rw [List.map_cons, List.map_cons, PyData.eqvAll, eqvAll_ints as bs, PyData.eqv]
    by_cases h : a = b
    · by_cases h2 : as = bs
      · subst h h2; simp
      · simp [h, h2]
    · simp [h]
theorem ok_ints (as : List Int) : okD (.list (as.map .int)) := by
  have h1 : PyData.canLayAll0 (as.map PyData.int) = true := by
    induction as with
    | nil => rfl
    | cons a as ih => rw [List.map_cons, PyData.canLayAll0, ih]; rfl
  have h2 : PyData.depthAll (as.map PyData.int) ≤ 0 := by
    clear h1
    induction as with
    | nil => exact Nat.le_refl _
    | cons a as ih => rw [List.map_cons, PyData.depthAll]; exact Nat.max_le.mpr ⟨Nat.le_refl _, ih⟩
  refine ⟨?_, ?_⟩
  · rw [PyData.canLay0]; exact h1
  · rw [PyData.depth]; omega
theorem rd_neL {H : Hp} {Q : VK} {p r : Addr} {as bs : List Int} (hx : H p = some (.lst (as.map V.int))) (hy : H r = some (.lst (bs.map V.int))) (h : Q (.bl (!decide (as = bs))) H) : rEqD true (.ref p) (.ref r) H Q :=
  rd_eqD (.lst (Rd.of hx) (IsAll.ints as)) (.lst (Rd.of hy) (IsAll.ints bs)) (ok_ints as) (ok_ints bs) (by rw [PyData.eqv, eqvAll_ints]; exact h)
/-! pairs row by row -/
end
end My

set_option Elab.async false
set_option linter.all false
set_option maxRecDepth 100000
set_option maxHeartbeats 4000000
namespace My
open PySem L2
section
variable {P : Program} {w : World} {K : PySem.W.Frag} {mg : Str → Option Value} {base : Heap} {t : Ad}
/-! what refuses -/
noncomputable def RefO (t : Ad) (H : Hp) (d : PyData) (E : XK) : Prop := okOrd d ∧ orderB d = false ∧ ∀ H', Same H H' → E (.ref t.c_NoOrder) none H'
noncomputable def spr_o1 (t : Ad) : Sp := fun vs H Q E => ∃ (x : V) (d : PyData), vs = [x] ∧ Is H x d ∧ RefO t H d E
theorem okr_need_order (T : Txt K mg t) : FnOk P w K mg base (CXE P w) 5 t.a_need_order t.d_need_order ["value"] (spr_o1 t) := by
  refine T.F_need_order.okX sc_need_order (fun vs H Q E h => ?_) (fun cdv A outer s H vs Q E hr h => ?_)
  · obtain ⟨x, d, rfl, _⟩ := h
    rfl
  · obtain ⟨x, d, rfl, hx, hok, hd, q⟩ := h
    refine ⟨_, (pss_one (ps_if (pt_not (pt_val (pe_call (ok_is_order T) (hr.mono (by decide)) rfl T.m_is_order T.F_is_order.kp T.b_is_order .nil pass0 (pa_cons (pv 0) pa_nil)))) (pss_one (ps_raise T.g_NoOrder T.Z_NoOrder.exc rfl (pa_cons pe_str pa_nil))) pss_nil)), ?_⟩
    walk_at "rd"
    refine ⟨_, _, rfl, hx, hok, fun H' s' => ?_⟩
    rw [hd]
    walk_at "rd"
    exact ⟨by show 1 ≤ sizeLine; decide, q H' s'⟩
noncomputable def spx_need_order (t : Ad) : Sp := fun vs H Q E => sp_need_order vs H Q E ∨ spr_o1 t vs H Q E
theorem okx_need_order (T : Txt K mg t) : FnOk P w K mg base (CXE P w) 5 t.a_need_order t.d_need_order ["value"] (spx_need_order t) := (ok_need_order T).lift.or (okr_need_order T)
noncomputable def spx_need_step (t : Ad) : Sp := fun vs H Q E => ∃ (x : V) (d : PyData), vs = [x] ∧ Is H x d ∧ (wholeB d 1 999 = true → Q .non H) ∧ (wholeB d 1 999 = false → E (.ref t.c_NoStep) none H)
theorem okx_need_step (T : Txt K mg t) : FnOk P w K mg base (CXE P w) 3 t.a_need_step t.d_need_step ["value"] (spx_need_step t) := by
  refine T.F_need_step.okX sc_need_step (fun vs H Q E h => ?_) (fun cdv A outer s H vs Q E hr h => ?_)
  · obtain ⟨x, d, rfl, _⟩ := h
    rfl
  · obtain ⟨x, d, rfl, hx, q1, q2⟩ := h
    refine ⟨_, (pss_one (ps_if (pt_not (pt_val (pe_call (ok_is_step T) (hr.mono (by decide)) rfl T.m_is_step T.F_is_step.kp T.b_is_step .nil pass0 (pa_cons (pv 0) pa_nil)))) (pss_one (ps_raise T.g_NoStep T.Z_NoStep.exc rfl (pa_cons pe_str pa_nil))) pss_nil)), ?_⟩
    walk_at "rd"
    refine ⟨_, _, rfl, hx, ?_⟩
    walk_at "rd"
    cases hw : wholeB d 1 999 with
    | true =>
      walk_at "rd"
      exact q1 hw
    | false =>
      walk_at "rd"
      exact ⟨by show 1 ≤ sizeLine; decide, q2 hw⟩
noncomputable def spx_need_thing (t : Ad) : Sp := fun vs H Q E => ∃ (x : V) (d : PyData) (m : Int), vs = [x, .int m] ∧ Is H x d ∧ (wholeB d 0 (m - 1) = true → Q .non H) ∧ (wholeB d 0 (m - 1) = false → E (.ref t.c_NoThing) none H)
theorem okx_need_thing (T : Txt K mg t) : FnOk P w K mg base (CXE P w) 3 t.a_need_thing t.d_need_thing ["value", "many"] (spx_need_thing t) := by
  refine T.F_need_thing.okX sc_need_thing (fun vs H Q E h => ?_) (fun cdv A outer s H vs Q E hr h => ?_)
  · obtain ⟨x, d, m, rfl, _⟩ := h
    rfl
  · obtain ⟨x, d, m, rfl, hx, q1, q2⟩ := h
    refine ⟨_, (pss_one (ps_if (pt_not (pt_val (pe_call (ok_is_thing T) (hr.mono (by decide)) rfl T.m_is_thing T.F_is_thing.kp T.b_is_thing .nil pass0 (pa_cons (pv 0) (pa_cons (pv 1) pa_nil))))) (pss_one (ps_raise T.g_NoThing T.Z_NoThing.exc rfl (pa_cons pe_str pa_nil))) pss_nil)), ?_⟩
    walk_at "rd"
    refine ⟨_, _, _, rfl, hx, ?_⟩
    walk_at "rd"
    cases hw : wholeB d 0 (m - 1) with
    | true =>
      walk_at "rd"
      exact q1 hw
    | false =>
      walk_at "rd"
      exact ⟨by show 1 ≤ sizeLine; decide, q2 hw⟩
noncomputable def FewN (d : PyData) : Prop := ∀ ds, d = .tuple ds → ds.length ≤ 1000
noncomputable def spx_need_numbers (t : Ad) : Sp := fun vs H Q E => ∃ (x : V) (a : Int) (b : Int) (d : PyData), vs = [x, .int a, .int b] ∧ Is H x d ∧ FewN d ∧ (numsB d a b = true → ∀ H', Same H H' → Q .non H') ∧ (numsB d a b = false → ∀ H', Same H H' → E (.ref t.c_NoNumbers) none H')
theorem okx_need_numbers (T : Txt K mg t) : FnOk P w K mg base (CXE P w) 3 t.a_need_numbers t.d_need_numbers ["value", "fewest", "most"] (spx_need_numbers t) := by
  refine T.F_need_numbers.okX sc_need_numbers (fun vs H Q E h => ?_) (fun cdv A outer s H vs Q E hr h => ?_)
  · obtain ⟨x, a, b, d, rfl, _⟩ := h
    rfl
  · obtain ⟨x, a, b, d, rfl, hx, hok, q1, q2⟩ := h
    refine ⟨_, (pss_one (ps_if (pt_not (pt_val (pe_call (ok_is_numbers T) (hr.mono (by decide)) rfl T.m_is_numbers T.F_is_numbers.kp T.b_is_numbers .nil pass0 (pa_cons (pv 0) (pa_cons (pv 1) (pa_cons (pv 2) pa_nil)))))) (pss_one (ps_raise T.g_NoNumbers T.Z_NoNumbers.exc rfl (pa_cons pe_str pa_nil))) pss_nil)), ?_⟩
    walk_at "rd"
    refine ⟨_, _, _, _, rfl, hx, hok, fun H1 s1 => ?_⟩
    cases hw : numsB d a b with
    | true =>
      walk_at "rd"
      exact q1 hw H1 s1
    | false =>
      walk_at "rd"
      exact ⟨by show 1 ≤ sizeLine; decide, q2 hw H1 s1⟩
theorem okx_bar (T : Txt K mg t) : FnOk P w K mg base (CXE P w) 6 t.a_bar t.d_bar ["order"] (spr_o1 t) := by
  refine T.F_bar.okX sc_bar (fun vs H Q E h => ?_) (fun cdv A outer s H vs Q E hr h => ?_)
  · obtain ⟨x, d, rfl, _⟩ := h
    rfl
  · obtain ⟨x, d, rfl, hx, h⟩ := h
    refine ⟨_, (pss_cons (ps_expr (pe_call (okx_need_order T) (hr.mono (by decide)) rfl T.m_need_order T.F_need_order.kp T.b_need_order .nil passE (pa_cons (pv 0) pa_nil)))
      (pss_cons ps_never
      (pss_cons ps_never
      (pss_one ps_never)))), ?_⟩
    walk_at "rd"
    exact .inr ⟨_, _, rfl, hx, h⟩
theorem okx_need_unbarred (T : Txt K mg t) : FnOk P w K mg base (CXE P w) 7 t.a_need_unbarred t.d_need_unbarred ["order"] (spr_o1 t) := by
  refine T.F_need_unbarred.okX sc_need_unbarred (fun vs H Q E h => ?_) (fun cdv A outer s H vs Q E hr h => ?_)
  · obtain ⟨x, d, rfl, _⟩ := h
    rfl
  · obtain ⟨x, d, rfl, hx, h⟩ := h
    refine ⟨_, (pss_one (ps_if (pt_cmpR o_notN (pe_call (okx_bar T) (hr.mono (by decide)) rfl T.m_bar T.F_bar.kp T.b_bar .nil passE (pa_cons (pv 0) pa_nil)) pe_non (nomark _)) (pss_one (ps_raise T.g_Barred T.Z_Barred.exc rfl (pa_cons pe_str pa_nil))) pss_nil)), ?_⟩
    walk_at "rd"
    exact ⟨_, _, rfl, hx, h⟩
theorem okx_least (T : Txt K mg t) : FnOk P w K mg base (CXE P w) 8 t.a_least t.d_least ["order"] (spr_o1 t) := by
  refine T.F_least.okX sc_least (fun vs H Q E h => ?_) (fun cdv A outer s H vs Q E hr h => ?_)
  · obtain ⟨x, d, rfl, _⟩ := h
    rfl
  · obtain ⟨x, d, rfl, hx, h⟩ := h
    refine ⟨_, (pss_cons (ps_expr (pe_call (okx_need_unbarred T) (hr.mono (by decide)) rfl T.m_need_unbarred T.F_need_unbarred.kp T.b_need_unbarred .nil passE (pa_cons (pv 0) pa_nil)))
      (pss_cons ps_never
      (pss_cons ps_never
      (pss_cons ps_never
      (pss_one ps_never))))), ?_⟩
    walk_at "rd"
    exact ⟨_, _, rfl, hx, h⟩
theorem okx_least_step (T : Txt K mg t) : FnOk P w K mg base (CXE P w) 9 t.a_least_step t.d_least_step ["order"] (spr_o1 t) := by
  refine T.F_least_step.okX sc_least_step (fun vs H Q E h => ?_) (fun cdv A outer s H vs Q E hr h => ?_)
  · obtain ⟨x, d, rfl, _⟩ := h
    rfl
  · obtain ⟨x, d, rfl, hx, h⟩ := h
    refine ⟨_, (pss_one (ps_ret (pe_ix (k_ix K) (pe_call (okx_least T) (hr.mono (by decide)) rfl T.m_least T.F_least.kp T.b_least .nil passE (pa_cons (pv 0) pa_nil)) pe_int (fun _ _ => rfl)))), ?_⟩
    walk_at "rd"
    exact ⟨_, _, rfl, hx, h⟩
theorem okx_row (T : Txt K mg t) : FnOk P w K mg base (CXE P w) 8 t.a_row t.d_row ["order"] (spr_o1 t) := by
  refine T.F_row.okX sc_row (fun vs H Q E h => ?_) (fun cdv A outer s H vs Q E hr h => ?_)
  · obtain ⟨x, d, rfl, _⟩ := h
    rfl
  · obtain ⟨x, d, rfl, hx, h⟩ := h
    refine ⟨_, (pss_cons (ps_expr (pe_call (okx_need_unbarred T) (hr.mono (by decide)) rfl T.m_need_unbarred T.F_need_unbarred.kp T.b_need_unbarred .nil passE (pa_cons (pv 0) pa_nil)))
      (pss_cons ps_never
      (pss_one ps_never))), ?_⟩
    walk_at "rd"
    exact ⟨_, _, rfl, hx, h⟩
theorem okx_longest (T : Txt K mg t) : FnOk P w K mg base (CXE P w) 9 t.a_longest t.d_longest ["order"] (spr_o1 t) := by
  refine T.F_longest.okX sc_longest (fun vs H Q E h => ?_) (fun cdv A outer s H vs Q E hr h => ?_)
  · obtain ⟨x, d, rfl, _⟩ := h
    rfl
  · obtain ⟨x, d, rfl, hx, h⟩ := h
    refine ⟨_, (pss_cons (ps_set (i := 1) sc_longest.nd rfl (Or.inr rfl) pe_dnewT)
      (pss_cons (ps_for PassesOwn.leaving rfl (k_ptup K (pe_call (okx_row T) (hr.mono (by decide)) rfl T.m_row T.F_row.kp T.b_row .nil passE (pa_cons (pv 0) pa_nil))) (pg_name (i := 2) sc_longest.nd rfl (Or.inl rfl)) (pss_one ps_never))
      (pss_one ps_never))), ?_⟩
    walk_at "rd"
    refine rd_dnew fun dn hdn => ?_
    have s1 := Same.upd (o := .dT []) hdn
    walk_at "rd"
    exact ⟨_, _, rfl, hx.same s1, h.1, h.2.1, fun H' s' => h.2.2 H' (s1.trans s')⟩
noncomputable def spr_is_bar (t : Ad) : Sp := fun vs H Q E => ∃ (x : V) (y : V) (d : PyData), vs = [x, y] ∧ Is H x d ∧ RefO t H d E
theorem okx_is_bar (T : Txt K mg t) : FnOk P w K mg base (CXE P w) 6 t.a_is_bar t.d_is_bar ["order", "thing"] (spr_is_bar t) := by
  refine T.F_is_bar.okX sc_is_bar (fun vs H Q E h => ?_) (fun cdv A outer s H vs Q E hr h => ?_)
  · obtain ⟨x, y, d, rfl, _⟩ := h
    rfl
  · obtain ⟨x, y, d, rfl, hx, h⟩ := h
    refine ⟨_, (pss_cons (ps_expr (pe_call (okx_need_order T) (hr.mono (by decide)) rfl T.m_need_order T.F_need_order.kp T.b_need_order .nil passE (pa_cons (pv 0) pa_nil)))
      (pss_cons ps_never
      (pss_cons ps_never
      (pss_cons ps_never
      (pss_one ps_never))))), ?_⟩
    walk_at "rd"
    exact .inr ⟨_, _, rfl, hx, h⟩
noncomputable def spr_numbers (t : Ad) : Sp := fun vs H Q E => ∃ (x : V) (y : V) (d : PyData) (e : PyData), vs = [x, y] ∧ Is H x d ∧ Is H y e ∧ (RefO t H d E ∨ ∃ (n : Nat) (ps : List (Int × Int)), d = ordD n ps ∧ Ord n ps ∧ wholeB e 1 999 = false ∧ ∀ H', Same H H' → E (.ref t.c_NoStep) none H')
theorem okx_numbers (T : Txt K mg t) : FnOk P w K mg base (CXE P w) 6 t.a_numbers t.d_numbers ["order", "step"] (spr_numbers t) := by
  refine T.F_numbers.okX sc_numbers (fun vs H Q E h => ?_) (fun cdv A outer s H vs Q E hr h => ?_)
  · obtain ⟨x, y, d, e, rfl, _⟩ := h
    rfl
  · obtain ⟨x, y, d, e, rfl, hx, hy, h⟩ := h
    refine ⟨_, (pss_cons (ps_expr (pe_call (okx_need_order T) (hr.mono (by decide)) rfl T.m_need_order T.F_need_order.kp T.b_need_order .nil passE (pa_cons (pv 0) pa_nil)))
      (pss_cons (ps_expr (pe_call (okx_need_step T) (hr.mono (by decide)) rfl T.m_need_step T.F_need_step.kp T.b_need_step .nil passE (pa_cons (pv 1) pa_nil)))
      (pss_one ps_never))), ?_⟩
    walk_at "rd"
    rcases h with h | ⟨n, ps, rfl, ho, hw, q⟩
    · exact .inr ⟨_, _, rfl, hx, h⟩
    · refine .inl ⟨_, _, rfl, hx, ho.okd, ho.yes, fun H1 s1 => ?_⟩
      walk_at "rd"
      exact ⟨_, _, rfl, hy.same s1, fun z => absurd (hw.symm.trans z) Bool.false_ne_true, fun _ => q _ s1⟩
noncomputable def spr_round_of (t : Ad) : Sp := fun vs H Q E => ∃ (x : V) (y : V) (d : PyData) (e : PyData), vs = [x, y] ∧ Is H x d ∧ Is H y e ∧ (RefO t H d E ∨ ∃ (n : Nat) (ps : List (Int × Int)), d = ordD n ps ∧ Ord n ps ∧ wholeB e 1 999 = false ∧ ∀ H', Same H H' → E (.ref t.c_NoStep) none H')
theorem okx_round_of (T : Txt K mg t) : FnOk P w K mg base (CXE P w) 6 t.a_round_of t.d_round_of ["order", "step"] (spr_round_of t) := by
  refine T.F_round_of.okX sc_round_of (fun vs H Q E h => ?_) (fun cdv A outer s H vs Q E hr h => ?_)
  · obtain ⟨x, y, d, e, rfl, _⟩ := h
    rfl
  · obtain ⟨x, y, d, e, rfl, hx, hy, h⟩ := h
    refine ⟨_, (pss_cons (ps_expr (pe_call (okx_need_order T) (hr.mono (by decide)) rfl T.m_need_order T.F_need_order.kp T.b_need_order .nil passE (pa_cons (pv 0) pa_nil)))
      (pss_cons (ps_expr (pe_call (okx_need_step T) (hr.mono (by decide)) rfl T.m_need_step T.F_need_step.kp T.b_need_step .nil passE (pa_cons (pv 1) pa_nil)))
      (pss_one ps_never))), ?_⟩
    walk_at "rd"
    rcases h with h | ⟨n, ps, rfl, ho, hw, q⟩
    · exact .inr ⟨_, _, rfl, hx, h⟩
    · refine .inl ⟨_, _, rfl, hx, ho.okd, ho.yes, fun H1 s1 => ?_⟩
      walk_at "rd"
      exact ⟨_, _, rfl, hy.same s1, fun z => absurd (hw.symm.trans z) Bool.false_ne_true, fun _ => q _ s1⟩
noncomputable def spr_is_round (t : Ad) : Sp := fun vs H Q E => ∃ (x : V) (y : V) (z : V) (d : PyData) (e : PyData), vs = [x, y, z] ∧ Is H x d ∧ Is H y e ∧ (RefO t H d E ∨ ∃ (n : Nat) (ps : List (Int × Int)), d = ordD n ps ∧ Ord n ps ∧ wholeB e 1 999 = false ∧ ∀ H', Same H H' → E (.ref t.c_NoStep) none H')
theorem okx_is_round (T : Txt K mg t) : FnOk P w K mg base (CXE P w) 6 t.a_is_round t.d_is_round ["order", "step", "thing"] (spr_is_round t) := by
  refine T.F_is_round.okX sc_is_round (fun vs H Q E h => ?_) (fun cdv A outer s H vs Q E hr h => ?_)
  · obtain ⟨x, y, z, d, e, rfl, _⟩ := h
    rfl
  · obtain ⟨x, y, z, d, e, rfl, hx, hy, h⟩ := h
    refine ⟨_, (pss_cons (ps_expr (pe_call (okx_need_order T) (hr.mono (by decide)) rfl T.m_need_order T.F_need_order.kp T.b_need_order .nil passE (pa_cons (pv 0) pa_nil)))
      (pss_cons (ps_expr (pe_call (okx_need_step T) (hr.mono (by decide)) rfl T.m_need_step T.F_need_step.kp T.b_need_step .nil passE (pa_cons (pv 1) pa_nil)))
      (pss_cons ps_never
      (pss_cons ps_never
      (pss_one ps_never))))), ?_⟩
    walk_at "rd"
    rcases h with h | ⟨n, ps, rfl, ho, hw, q⟩
    · exact .inr ⟨_, _, rfl, hx, h⟩
    · refine .inl ⟨_, _, rfl, hx, ho.okd, ho.yes, fun H1 s1 => ?_⟩
      walk_at "rd"
      exact ⟨_, _, rfl, hy.same s1, fun z => absurd (hw.symm.trans z) Bool.false_ne_true, fun _ => q _ s1⟩
noncomputable def spr_beside (t : Ad) : Sp := fun vs H Q E => ∃ (x : V) (y : V) (d : PyData) (e : PyData), vs = [x, y] ∧ Is H x d ∧ Is H y e ∧ (RefO t H d E ∨ ∃ (n : Nat) (ps : List (Int × Int)), d = ordD n ps ∧ Ord n ps ∧ wholeB e 0 ((n : Int) - 1) = false ∧ ∀ H', Same H H' → E (.ref t.c_NoThing) none H')
theorem okr_beside (T : Txt K mg t) : FnOk P w K mg base (CXE P w) 6 t.a_beside t.d_beside ["order", "thing"] (spr_beside t) := by
  refine T.F_beside.okX sc_beside (fun vs H Q E h => ?_) (fun cdv A outer s H vs Q E hr h => ?_)
  · obtain ⟨x, y, d, e, rfl, _⟩ := h
    rfl
  · obtain ⟨x, y, d, e, rfl, hx, hy, h⟩ := h
    refine ⟨_, (pss_cons (ps_expr (pe_call (okx_need_order T) (hr.mono (by decide)) rfl T.m_need_order T.F_need_order.kp T.b_need_order .nil passE (pa_cons (pv 0) pa_nil)))
      (pss_cons (ps_expr (pe_call (okx_need_thing T) (hr.mono (by decide)) rfl T.m_need_thing T.F_need_thing.kp T.b_need_thing .nil passE (pa_cons (pv 1) (pa_cons (pe_ix (k_ix K) (pv 0) pe_int (fun _ _ => rfl)) pa_nil))))
      (pss_one ps_never))), ?_⟩
    walk_at "rd"
    rcases h with h | ⟨n, ps, rfl, ho, hw, q⟩
    · exact .inr ⟨_, _, rfl, hx, h⟩
    · refine .inl ⟨_, _, rfl, hx, ho.okd, ho.yes, fun H1 s1 => ?_⟩
      obtain ⟨oa, ob, xs, rfl, ea, eb, hxs⟩ := is_ord (hx.same s1)
      walk_at "rd"
      exact ⟨_, _, _, rfl, hy.same s1, fun z => absurd (hw.symm.trans z) Bool.false_ne_true, fun _ => q _ s1⟩
noncomputable def spr_parted (t : Ad) : Sp := fun vs H Q E => ∃ (x : V) (y : V) (z : V) (d : PyData) (e : PyData) (g : PyData), vs = [x, y, z] ∧ Is H x d ∧ Is H y e ∧ Is H z g ∧ (RefO t H d E ∨ ∃ (n : Nat) (ps : List (Int × Int)), d = ordD n ps ∧ Ord n ps ∧ (wholeB e 0 ((n : Int) - 1) = false ∨ (wholeB e 0 ((n : Int) - 1) = true ∧ wholeB g 0 ((n : Int) - 1) = false)) ∧ ∀ H', Same H H' → E (.ref t.c_NoThing) none H')
theorem okr_parted (T : Txt K mg t) : FnOk P w K mg base (CXE P w) 6 t.a_parted t.d_parted ["order", "one", "other"] (spr_parted t) := by
  refine T.F_parted.okX sc_parted (fun vs H Q E h => ?_) (fun cdv A outer s H vs Q E hr h => ?_)
  · obtain ⟨x, y, z, d, e, g, rfl, _⟩ := h
    rfl
  · obtain ⟨x, y, z, d, e, g, rfl, hx, hy, hz, h⟩ := h
    refine ⟨_, (pss_cons (ps_expr (pe_call (okx_need_order T) (hr.mono (by decide)) rfl T.m_need_order T.F_need_order.kp T.b_need_order .nil passE (pa_cons (pv 0) pa_nil)))
      (pss_cons (ps_expr (pe_call (okx_need_thing T) (hr.mono (by decide)) rfl T.m_need_thing T.F_need_thing.kp T.b_need_thing .nil passE (pa_cons (pv 1) (pa_cons (pe_ix (k_ix K) (pv 0) pe_int (fun _ _ => rfl)) pa_nil))))
      (pss_cons (ps_expr (pe_call (okx_need_thing T) (hr.mono (by decide)) rfl T.m_need_thing T.F_need_thing.kp T.b_need_thing .nil passE (pa_cons (pv 2) (pa_cons (pe_ix (k_ix K) (pv 0) pe_int (fun _ _ => rfl)) pa_nil))))
      (pss_cons ps_never
      (pss_one ps_never))))), ?_⟩
    walk_at "rd"
    rcases h with h | ⟨n, ps, rfl, ho, hw, q⟩
    · exact .inr ⟨_, _, rfl, hx, h⟩
    · refine .inl ⟨_, _, rfl, hx, ho.okd, ho.yes, fun H1 s1 => ?_⟩
      obtain ⟨oa, ob, xs, rfl, ea, eb, hxs⟩ := is_ord (hx.same s1)
      walk_at "rd"
      rcases hw with hw | ⟨h1, hw⟩
      · exact ⟨_, _, _, rfl, hy.same s1, fun z => absurd (hw.symm.trans z) Bool.false_ne_true, fun _ => q _ s1⟩
      · refine ⟨_, _, _, rfl, hy.same s1, fun _ => ?_, fun z => absurd (h1.symm.trans z) Bool.noConfusion⟩
        walk_at "rd"
        exact ⟨_, _, _, rfl, hz.same s1, fun z => absurd (hw.symm.trans z) Bool.false_ne_true, fun _ => q _ s1⟩
noncomputable def spr_fits (t : Ad) : Sp := fun vs H Q E => ∃ (x : V) (y : V) (z : V) (d : PyData) (e : PyData) (g : PyData), vs = [x, y, z] ∧ Is H x d ∧ Is H y e ∧ Is H z g ∧ FewN g ∧ (RefO t H d E ∨ ∃ (n : Nat) (ps : List (Int × Int)), d = ordD n ps ∧ Ord n ps ∧ ((wholeB e 1 999 = false ∧ ∀ H', Same H H' → E (.ref t.c_NoStep) none H') ∨ (wholeB e 1 999 = true ∧ numsB g (n : Int) (n : Int) = false ∧ ∀ H', Same H H' → E (.ref t.c_NoNumbers) none H')))
theorem okr_fits (T : Txt K mg t) : FnOk P w K mg base (CXE P w) 6 t.a_fits t.d_fits ["order", "step", "numbers"] (spr_fits t) := by
  refine T.F_fits.okX sc_fits (fun vs H Q E h => ?_) (fun cdv A outer s H vs Q E hr h => ?_)
  · obtain ⟨x, y, z, d, e, g, rfl, _⟩ := h
    rfl
  · obtain ⟨x, y, z, d, e, g, rfl, hx, hy, hz, fw, h⟩ := h
    refine ⟨_, (pss_cons (ps_expr (pe_call (okx_need_order T) (hr.mono (by decide)) rfl T.m_need_order T.F_need_order.kp T.b_need_order .nil passE (pa_cons (pv 0) pa_nil)))
      (pss_cons (ps_expr (pe_call (okx_need_step T) (hr.mono (by decide)) rfl T.m_need_step T.F_need_step.kp T.b_need_step .nil passE (pa_cons (pv 1) pa_nil)))
      (pss_cons (ps_expr (pe_call (okx_need_numbers T) (hr.mono (by decide)) rfl T.m_need_numbers T.F_need_numbers.kp T.b_need_numbers .nil passE (pa_cons (pv 2) (pa_cons (pe_ix (k_ix K) (pv 0) pe_int (fun _ _ => rfl)) (pa_cons (pe_ix (k_ix K) (pv 0) pe_int (fun _ _ => rfl)) pa_nil)))))
      (pss_one ps_never)))), ?_⟩
    walk_at "rd"
    rcases h with h | ⟨n, ps, rfl, ho, h⟩
    · exact .inr ⟨_, _, rfl, hx, h⟩
    · refine .inl ⟨_, _, rfl, hx, ho.okd, ho.yes, fun H1 s1 => ?_⟩
      obtain ⟨oa, ob, xs, rfl, ea, eb, hxs⟩ := is_ord (hx.same s1)
      walk_at "rd"
      rcases h with ⟨hw, q⟩ | ⟨h1, hw, q⟩
      · exact ⟨_, _, rfl, hy.same s1, fun z => absurd (hw.symm.trans z) Bool.false_ne_true, fun _ => q _ s1⟩
      · refine ⟨_, _, rfl, hy.same s1, fun _ => ?_, fun z => absurd (h1.symm.trans z) Bool.noConfusion⟩
        walk_at "rd"
        exact ⟨_, _, _, _, rfl, hz.same s1, fw, fun z => absurd (hw.symm.trans z) Bool.false_ne_true, fun _ H2 s2 => q _ (s1.trans s2)⟩
noncomputable def spr_told (t : Ad) : Sp := fun vs H Q E => ∃ (x : V) (y : V) (d : PyData) (e : PyData), vs = [x, y] ∧ Is H x d ∧ Is H y e ∧ FewN e ∧ ((wholeB d 1 999 = false ∧ ∀ H', Same H H' → E (.ref t.c_NoStep) none H') ∨ (wholeB d 1 999 = true ∧ numsB e 1 8 = false ∧ ∀ H', Same H H' → E (.ref t.c_NoNumbers) none H'))
theorem okr_told (T : Txt K mg t) : FnOk P w K mg base (CXE P w) 4 t.a_told t.d_told ["step", "numbers"] (spr_told t) := by
  refine T.F_told.okX sc_told (fun vs H Q E h => ?_) (fun cdv A outer s H vs Q E hr h => ?_)
  · obtain ⟨x, y, d, e, rfl, _⟩ := h
    rfl
  · obtain ⟨x, y, d, e, rfl, hx, hy, fw, h⟩ := h
    refine ⟨_, (pss_cons (ps_expr (pe_call (okx_need_step T) (hr.mono (by decide)) rfl T.m_need_step T.F_need_step.kp T.b_need_step .nil passE (pa_cons (pv 0) pa_nil)))
      (pss_cons (ps_expr (pe_call (okx_need_numbers T) (hr.mono (by decide)) rfl T.m_need_numbers T.F_need_numbers.kp T.b_need_numbers .nil passE (pa_cons (pv 1) (pa_cons pe_int (pa_cons (pe_gint rfl T.c_MOST_THINGS) pa_nil)))))
      (pss_one ps_never))), ?_⟩
    walk_at "rd"
    rcases h with ⟨hw, q⟩ | ⟨h1, hw, q⟩
    · exact ⟨_, _, rfl, hx, fun z => absurd (hw.symm.trans z) Bool.false_ne_true, fun _ => q _ (Same.refl H)⟩
    · refine ⟨_, _, rfl, hx, fun _ => ?_, fun z => absurd (h1.symm.trans z) Bool.noConfusion⟩
      walk_at "rd"
      exact ⟨_, _, _, _, rfl, hy, fw, fun z => absurd (hw.symm.trans z) Bool.false_ne_true, fun _ H2 s2 => q _ s2⟩
end
end My

set_option Elab.async false
set_option linter.all false
set_option maxRecDepth 100000
set_option maxHeartbeats 4000000
namespace My
open PySem L2
section
variable {P : Program} {w : World} {K : PySem.W.Frag} {mg : Str → Option Value} {base : Heap} {t : Ad}
/-! what is beside, what parts two, what numbers tell -/
set_option genSizeOf false in
set_option genInjectivity false in
inductive sp_need_thing (vs : List V) (H : Hp) (Q : VK) (zz3 : XK) : Prop where
  | mk (x : V) (d : PyData) (m : Int) (zh0 : vs = [x, .int m]) (zh1 : Is H x d) (zh2 : wholeB d 0 (m - 1) = true) (zh3 : Q .non H) : sp_need_thing  vs H Q zz3
theorem ok_need_thing (T : Txt K mg t) : FnOk P w K mg base CX0 3 t.a_need_thing t.d_need_thing ["value", "many"] sp_need_thing := by
  refine T.F_need_thing.ok sc_need_thing (fun vs H Q E h => ?_) (fun cdv A outer s H vs Q E hr h => ?_)
  · obtain ⟨x, d, m, rfl, _⟩ := h
    rfl
  · obtain ⟨x, d, m, rfl, hx, ho, q⟩ := h
    refine ⟨_, (pss_one (ps_if (pt_not (pt_val (pe_call (ok_is_thing T) (hr.mono (by decide)) rfl T.m_is_thing T.F_is_thing.kp T.b_is_thing .nil pass0 (pa_cons (pv 0) (pa_cons (pv 1) pa_nil))))) (pss_one ps_never) pss_nil)), ?_⟩
    walk_at "rd"
    refine ⟨_, _, _, rfl, hx, ?_⟩
    rw [ho]
    walk_at "rd"
    exact q
noncomputable def besB (ps : List (Int × Int)) (a b : Int) : Bool := !has ps a b && !has ps b a
set_option genSizeOf false in
set_option genInjectivity false in
inductive sp_are (vs : List V) (H : Hp) (Q : VK) (zz3 : XK) : Prop where
  | mk (x : V) (ps : List (Int × Int)) (a : Int) (b : Int) (zh0 : vs = [x, .int a, .int b]) (zh1 : Is H x (.tuple (ps.map prD))) (zh2 : ∀ H', Same H H' → Q (.bl (besB ps a b)) H') : sp_are  vs H Q zz3
theorem ok_are_beside (T : Txt K mg t) : FnOk P w K mg base CX0 1 t.a_are_beside t.d_are_beside ["pairs", "one", "other"] sp_are := by
  refine T.F_are_beside.ok sc_are_beside (fun vs H Q E h => ?_) (fun cdv A outer s H vs Q E hr h => ?_)
  · obtain ⟨x, ps, a, b, rfl, _⟩ := h
    rfl
  · obtain ⟨x, ps, a, b, rfl, hx, q⟩ := h
    refine ⟨_, (pss_one (ps_ret (pe_and (pe_cmpR (op_notInD hr.units) (pe_tup (pa_cons (pv 1) (pa_cons (pv 2) pa_nil))) (pv 0) (by rfl)) (pe_one (pe_cmpR (op_notInD hr.units) (pe_tup (pa_cons (pv 2) (pa_cons (pv 1) pa_nil))) (pv 0) (by rfl)))))), ?_⟩
    unfold besB at q
    walk_at "rd"
    refine ⟨two_ln, fun p1 hp1 => ?_⟩
    have s1 := Same.upd (o := .tup [V.int a, V.int b]) hp1
    walk_at "rd"
    refine rd_ninP upd_same (hx.same s1) ?_
    cases h1 : has ps a b with
    | true =>
      rw [h1] at q
      walk_at "rd"
      exact q _ s1
    | false =>
      rw [h1] at q
      walk_at "rd"
      refine ⟨two_ln, fun p2 hp2 => ?_⟩
      have s2 := s1.trans (Same.upd (o := .tup [V.int b, V.int a]) hp2)
      walk_at "rd"
      refine rd_ninP upd_same (hx.same s2) ?_
      exact q _ s2
noncomputable def besL (n : Nat) (ps : List (Int × Int)) (a : Int) : List Int := (L2.upTo n).filter fun b => besB ps a b
set_option genSizeOf false in
set_option genInjectivity false in
inductive sp_beside (vs : List V) (H : Hp) (Q : VK) (zz3 : XK) : Prop where
  | mk (x : V) (n : Nat) (ps : List (Int × Int)) (a : Int) (zh0 : vs = [x, .int a]) (zh1 : Is H x (ordD n ps)) (zh2 : Ord n ps) (zh3 : 0 ≤ a) (zh4 : a < (n : Int)) (zh5 : ∀ l H', Same H H' → H' l = some (.lst ((besL n ps a).map V.int)) → Q (.ref l) H') : sp_beside  vs H Q zz3
theorem th_ok {a : Int} {n : Nat} (h0 : 0 ≤ a) (h1 : a < (n : Int)) : wholeB (.int a) 0 ((n : Int) - 1) = true := by
  show (decide (0 ≤ a) && decide (a ≤ (n : Int) - 1)) = true
  rw [decide_eq_true h0, decide_eq_true (show a ≤ (n : Int) - 1 by omega)]
  rfl
theorem ok_beside (T : Txt K mg t) : FnOk P w K mg base CX0 6 t.a_beside t.d_beside ["order", "thing"] sp_beside := by
  refine T.F_beside.ok sc_beside (fun vs H Q E h => ?_) (fun cdv A outer s H vs Q E hr h => ?_)
  · obtain ⟨x, n, ps, a, rfl, _⟩ := h
    rfl
  · obtain ⟨x, n, ps, a, rfl, hx, ho, a0, a1, q⟩ := h
    refine ⟨_, (pss_cons (ps_expr (pe_call (ok_need_order T) (hr.mono (by decide)) rfl T.m_need_order T.F_need_order.kp T.b_need_order .nil pass0 (pa_cons (pv 0) pa_nil)))
      (pss_cons (ps_expr (pe_call (ok_need_thing T) (hr.mono (by decide)) rfl T.m_need_thing T.F_need_thing.kp T.b_need_thing .nil pass0 (pa_cons (pv 1) (pa_cons (pe_ix (k_ix K) (pv 0) pe_int (fun _ _ => rfl)) pa_nil))))
      (pss_one (ps_ret (pe_lc rfl ⟨True.intro, True.intro, True.intro, (.inl rfl), (.inl rfl), True.intro⟩ (M := ["other", "order", "thing"]) (.own (.free 0 rfl rfl (.free 1 rfl rfl .nil))) (gk_name rfl) rfl (by decide +kernel) (pi_range1 rfl T.n_range (pa_cons (pe_ix (k_ix K) (pv 0) pe_int (fun _ _ => rfl)) pa_nil)) (fun C fp s1 H1 => ⟨pg_name (i := 0) (show (["other", "order", "thing"] : List Str).Nodup by decide +kernel) rfl (Or.inl rfl), pif_one (pt_val (pe_call (ok_are_beside T) (hr.mono (by decide)) rfl T.m_are_beside T.F_are_beside.kp T.b_are_beside .nil pass0 (pa_cons (pe_ix (k_ix K) (pv 1) pe_int (fun _ _ => rfl)) (pa_cons (pv 2) (pa_cons (pv 0) pa_nil))))), (pv 0)⟩)))))), ?_⟩
    have n8 := ho.hi
    walk_at "rd"
    refine ⟨_, _, rfl, hx, ho.okd, ho.yes, fun H1 s1 => ?_⟩
    obtain ⟨oa, ob, xs, rfl, ea, eb, hxs⟩ := is_ord (hx.same s1)
    walk_at "rd"
    refine ⟨_, _, _, rfl, .int a, th_ok a0 a1, ?_⟩
    walk_at "rd"
    refine ⟨_, rfl, by omega, by omega, ?_⟩
    rw [Int.toNat_natCast]
    refine lp_range (small_ln (by omega)) (fun i ys H' => Same H1 H' ∧ ys = (((L2.upTo n).take i).filter fun b => besB ps a b).map V.int) ⟨Same.refl _, rfl⟩ (by
      rintro i ys H' ⟨_, rfl⟩
      rw [List.length_map]
      refine Nat.le_trans (List.length_filter_le _ _) ?_
      rw [List.length_take]
      omega) ?_ ?_
    · rintro k ys H2 hk ⟨s2, rfl⟩
      have hu : (L2.upTo n)[k]? = some (k : Int) := by
        unfold L2.upTo
        rw [List.getElem?_map, List.getElem?_range hk]
        rfl
      rw [List.take_add_one, hu, show (some (k : Int)).toList = [(k : Int)] from rfl, List.filter_append, filter_one, List.map_append]
      have ea2 := s2 _ _ ea
      walk_at "rd"
      refine ⟨_, ps, a, _, rfl, .tup (s2 _ _ eb) (hxs.same s2), fun H3 s3 => ?_⟩
      rw [Int.zero_add] at *
      walk_at "rd"
      refine ifB (fun g => ?_) (fun g => ?_)
      · have g' : besB ps a (k : Int) = true := g
        walk_at "rd"
        rw [if_pos g']
        exact ⟨s2.trans s3, rfl⟩
      · have g' : besB ps a (k : Int) = false := g
        rw [if_neg (by rw [g']; exact Bool.false_ne_true), List.map_nil, List.append_nil]
        exact ⟨s2.trans s3, rfl⟩
    · rintro ys H2 ⟨s2, rfl⟩ l hl
      rw [show ((L2.upTo n).take n) = L2.upTo n from List.take_of_length_le (by rw [L2.upTo_len]; exact Nat.le_refl _)]
      walk_at "rd"
      exact q l _ ((s1.trans s2).trans (Same.upd hl)) upd_same
noncomputable def prtB (ps : List (Int × Int)) (c a b : Int) : Bool := !(has ps c a == has ps c b) || !(has ps a c == has ps b c)
set_option genSizeOf false in
set_option genInjectivity false in
inductive sp_parts (vs : List V) (H : Hp) (Q : VK) (zz3 : XK) : Prop where
  | mk (x : V) (ps : List (Int × Int)) (c : Int) (a : Int) (b : Int) (zh0 : vs = [x, .int c, .int a, .int b]) (zh1 : Is H x (.tuple (ps.map prD))) (zh2 : ∀ H', Same H H' → Q (.bl (prtB ps c a b)) H') : sp_parts  vs H Q zz3
theorem ok_parts (T : Txt K mg t) : FnOk P w K mg base CX0 1 t.a_parts t.d_parts ["pairs", "thing", "one", "other"] sp_parts := by
  refine T.F_parts.ok sc_parts (fun vs H Q E h => ?_) (fun cdv A outer s H vs Q E hr h => ?_)
  · obtain ⟨x, ps, c, a, b, rfl, _⟩ := h
    rfl
  · obtain ⟨x, ps, c, a, b, rfl, hx, q⟩ := h
    refine ⟨_, (pss_cons (ps_if (pt_cmpR (op_neD hr.units) (pe_cmpR (op_inD hr.units) (pe_tup (pa_cons (pv 1) (pa_cons (pv 2) pa_nil))) (pv 0) (by rfl)) (pe_cmpR (op_inD hr.units) (pe_tup (pa_cons (pv 1) (pa_cons (pv 3) pa_nil))) (pv 0) (by rfl)) (nomark _)) (pss_one (ps_ret pe_bl)) pss_nil)
      (pss_one (ps_ret (pe_cmpR (op_neD hr.units) (pe_cmpR (op_inD hr.units) (pe_tup (pa_cons (pv 2) (pa_cons (pv 1) pa_nil))) (pv 0) (by rfl)) (pe_cmpR (op_inD hr.units) (pe_tup (pa_cons (pv 3) (pa_cons (pv 1) pa_nil))) (pv 0) (by rfl)) (nomark _))))), ?_⟩
    unfold prtB at q
    walk_at "rd"
    refine ⟨two_ln, fun p1 hp1 => ?_⟩
    have s1 := Same.upd (o := .tup [V.int c, V.int a]) hp1
    walk_at "rd"
    refine rd_inP upd_same (hx.same s1) ?_
    walk_at "rd"
    refine ⟨two_ln, fun p2 hp2 => ?_⟩
    have s2 := s1.trans (Same.upd (o := .tup [V.int c, V.int b]) hp2)
    walk_at "rd"
    refine rd_inP upd_same (hx.same s2) ?_
    walk_at "rd"
    refine ifB (fun g => ?_) (fun g => ?_)
    · have q' := q _ s2
      rw [show (!(has ps c a == has ps c b)) = true from g] at q'
      walk_at "rd"
      exact q'
    · rw [show (!(has ps c a == has ps c b)) = false from g] at q
      walk_at "rd"
      refine ⟨two_ln, fun p3 hp3 => ?_⟩
      have s3 := s2.trans (Same.upd (o := .tup [V.int a, V.int c]) hp3)
      walk_at "rd"
      refine rd_inP upd_same (hx.same s3) ?_
      walk_at "rd"
      refine ⟨two_ln, fun p4 hp4 => ?_⟩
      have s4 := s3.trans (Same.upd (o := .tup [V.int b, V.int c]) hp4)
      walk_at "rd"
      refine rd_inP upd_same (hx.same s4) ?_
      walk_at "rd"
      exact q _ s4
noncomputable def prtV (n : Nat) (ps : List (Int × Int)) (a b : Int) : V := match (L2.upTo n).find? (fun c => prtB ps c a b) with | some c => .int c | none => .non
set_option genSizeOf false in
set_option genInjectivity false in
inductive sp_parted (vs : List V) (H : Hp) (Q : VK) (zz3 : XK) : Prop where
  | mk (x : V) (n : Nat) (ps : List (Int × Int)) (a : Int) (b : Int) (zh0 : vs = [x, .int a, .int b]) (zh1 : Is H x (ordD n ps)) (zh2 : Ord n ps) (zh3 : 0 ≤ a) (zh4 : a < (n : Int)) (zh5 : 0 ≤ b) (zh6 : b < (n : Int)) (zh7 : ∀ H', Same H H' → Q (prtV n ps a b) H') : sp_parted  vs H Q zz3
theorem find_at {f : Int → Bool} : ∀ {l : List Int} {i : Nat} {c : Int}, l[i]? = some c → f c = true → (∀ x ∈ l.take i, f x = false) → l.find? f = some c
  | [], i, c, h, _, _ => by cases h
  | x :: l, 0, c, h, hc, _ => by
    cases h
    rw [List.find?_cons, hc]
  | x :: l, i + 1, c, h, hc, hn => by
    rw [List.find?_cons, hn x (by simp)]
    exact find_at (i := i) (by simpa using h) hc fun y hy => hn y (by simp [hy])
theorem ok_parted (T : Txt K mg t) : FnOk P w K mg base CX0 6 t.a_parted t.d_parted ["order", "one", "other"] sp_parted := by
  refine T.F_parted.ok sc_parted (fun vs H Q E h => ?_) (fun cdv A outer s H vs Q E hr h => ?_)
  · obtain ⟨x, n, ps, a, b, rfl, _⟩ := h
    rfl
  · obtain ⟨x, n, ps, a, b, rfl, hx, ho, a0, a1, b0, b1, q⟩ := h
    refine ⟨_, (pss_cons (ps_expr (pe_call (ok_need_order T) (hr.mono (by decide)) rfl T.m_need_order T.F_need_order.kp T.b_need_order .nil pass0 (pa_cons (pv 0) pa_nil)))
      (pss_cons (ps_expr (pe_call (ok_need_thing T) (hr.mono (by decide)) rfl T.m_need_thing T.F_need_thing.kp T.b_need_thing .nil pass0 (pa_cons (pv 1) (pa_cons (pe_ix (k_ix K) (pv 0) pe_int (fun _ _ => rfl)) pa_nil))))
      (pss_cons (ps_expr (pe_call (ok_need_thing T) (hr.mono (by decide)) rfl T.m_need_thing T.F_need_thing.kp T.b_need_thing .nil pass0 (pa_cons (pv 2) (pa_cons (pe_ix (k_ix K) (pv 0) pe_int (fun _ _ => rfl)) pa_nil))))
      (pss_cons (ps_for PassesOwn.never rfl (pi_range1 rfl T.n_range (pa_cons (pe_ix (k_ix K) (pv 0) pe_int (fun _ _ => rfl)) pa_nil)) (pg_name (i := 3) sc_parted.nd rfl (Or.inl rfl)) (pss_one (ps_if (pt_val (pe_call (ok_parts T) (hr.mono (by decide)) rfl T.m_parts T.F_parts.kp T.b_parts .nil pass0 (pa_cons (pe_ix (k_ix K) (pv 0) pe_int (fun _ _ => rfl)) (pa_cons (pv 3) (pa_cons (pv 1) (pa_cons (pv 2) pa_nil)))))) (pss_one (ps_ret (pv 3))) pss_nil)))
      (pss_one (ps_ret pe_non)))))), ?_⟩
    have n8 := ho.hi
    walk_at "rd"
    refine ⟨_, _, rfl, hx, ho.okd, ho.yes, fun H1 s1 => ?_⟩
    obtain ⟨oa, ob, xs, rfl, ea, eb, hxs⟩ := is_ord (hx.same s1)
    walk_at "rd"
    refine ⟨_, _, _, rfl, .int a, th_ok a0 a1, ?_⟩
    walk_at "rd"
    refine ⟨_, _, _, rfl, .int b, th_ok b0 b1, ?_⟩
    walk_at "rd"
    refine ⟨_, rfl, by omega, by omega, ?_⟩
    rw [Int.toNat_natCast]
    refine fp_range (fun k σ H' => (∃ v3, σ = [some (.ref oa), some (.int a), some (.int b), v3]) ∧ Same H1 H' ∧ ∀ c ∈ (L2.upTo n).take k, prtB ps c a b = false) ⟨⟨_, rfl⟩, Same.refl _, fun c h => by cases h⟩ ?_ ?_
    · rintro k σ H2 hk ⟨⟨v3, rfl⟩, s2, hn⟩
      have hu : (L2.upTo n)[k]? = some (k : Int) := by
        unfold L2.upTo
        rw [List.getElem?_map, List.getElem?_range hk]
        rfl
      have ea2 := s2 _ _ ea
      walk_at "rd"
      rw [Int.zero_add] at *
      refine ⟨_, ps, _, a, b, rfl, .tup (s2 _ _ eb) (hxs.same s2), fun H3 s3 => ?_⟩
      walk_at "rd"
      refine ifB (fun g => ?_) (fun g => ?_)
      · have g' : prtB ps (k : Int) a b = true := g
        have q' := q H3 ((s1.trans s2).trans s3)
        unfold prtV at q'
        rw [find_at (f := fun c => prtB ps c a b) hu g' hn] at q'
        walk_at "rd"
        exact q'
      · have g' : prtB ps (k : Int) a b = false := g
        walk_at "rd"
        refine ⟨⟨_, rfl⟩, s2.trans s3, fun c hc => ?_⟩
        rw [List.take_add_one, hu] at hc
        rcases List.mem_append.mp hc with hc | hc
        · exact hn c hc
        · have : c = (k : Int) := by simpa using hc
          rw [this]
          exact g'
    · rintro σ H2 ⟨⟨v3, rfl⟩, s2, hn⟩
      rw [show ((L2.upTo n).take n) = L2.upTo n from List.take_of_length_le (by rw [L2.upTo_len]; exact Nat.le_refl _)] at hn
      have q' := q H2 (s1.trans s2)
      unfold prtV at q'
      rw [List.find?_eq_none.mpr (fun c hc => by rw [hn c hc]; exact Bool.false_ne_true)] at q'
      walk_at "rd"
      exact q'
set_option genSizeOf false in
set_option genInjectivity false in
inductive sp_told (vs : List V) (H : Hp) (Q : VK) (zz3 : XK) : Prop where
  | mk (st : Int) (a : Addr) (vals : List Int) (zh0 : vs = [.int st, .ref a]) (zh1 : 1 ≤ st) (zh2 : st ≤ 999) (zh3 : H a = some (.tup (vals.map V.int))) (zh4 : 1 ≤ vals.length) (zh5 : vals.length ≤ 8) (zh6 : (∀ v ∈ vals, 0 ≤ v ∧ v ≤ 9999)) (zh7 : ∀ x H', Same H H' → Is H' x (ordD vals.length (toldL st vals)) → Q x H') : sp_told  vs H Q zz3
theorem nums_ok2 {vals : List Int} (h1 : 1 ≤ vals.length) (h8 : vals.length ≤ 8) (hv : ∀ v ∈ vals, 0 ≤ v ∧ v ≤ 9999) : numsB (.tuple (vals.map .int)) 1 8 = true := by
  show (decide ((1 : Int) ≤ ((vals.map PyData.int).length : Int)) && decide (((vals.map PyData.int).length : Int) ≤ 8) && (vals.map PyData.int).all (fun d => wholeB d 0 9999)) = true
  rw [List.length_map, decide_eq_true (by omega), decide_eq_true (by omega), List.all_map]
  refine List.all_eq_true.mpr fun v h => ?_
  obtain ⟨a, b⟩ := hv v h
  show (decide (0 ≤ v) && decide (v ≤ 9999)) = true
  rw [decide_eq_true a, decide_eq_true b]
  rfl
theorem ok_told (T : Txt K mg t) : FnOk P w K mg base CX0 4 t.a_told t.d_told ["step", "numbers"] sp_told := by
  refine T.F_told.ok sc_told (fun vs H Q E h => ?_) (fun cdv A outer s H vs Q E hr h => ?_)
  · obtain ⟨st, a, vals, rfl, _⟩ := h
    rfl
  · obtain ⟨st, a, vals, rfl, st1, st9, ea, l1, l8, hv, q⟩ := h
    refine ⟨_, (pss_cons (ps_expr (pe_call (ok_need_step T) (hr.mono (by decide)) rfl T.m_need_step T.F_need_step.kp T.b_need_step .nil pass0 (pa_cons (pv 0) pa_nil)))
      (pss_cons (ps_expr (pe_call (ok_need_numbers T) (hr.mono (by decide)) rfl T.m_need_numbers T.F_need_numbers.kp T.b_need_numbers .nil pass0 (pa_cons (pv 1) (pa_cons pe_int (pa_cons (pe_gint rfl T.c_MOST_THINGS) pa_nil)))))
      (pss_one (ps_ret (pe_tup (pa_cons (pe_callB (k_len K) (by rfl) T.n_len bt_len (pa_cons (pv 1) pa_nil)) (pa_cons (pe_call (ok_told_pairs T) (hr.mono (by decide)) rfl T.m_told_pairs T.F_told_pairs.kp T.b_told_pairs .nil pass0 (pa_cons (pv 0) (pa_cons (pv 1) pa_nil))) pa_nil))))))), ?_⟩
    walk_at "rd"
    refine ⟨_, _, rfl, .int st, step_ok st1 st9, ?_⟩
    walk_at "rd"
    refine ⟨_, _, _, _, rfl, .tup ea (IsAll.ints vals), ?_, nums_ok2 l1 l8 hv, fun H2 s2 => ?_⟩
    · rintro ds ⟨⟩
      rw [List.length_map]
      omega
    have ea2 := s2 _ _ ea
    walk_at "rd"
    refine ⟨a, st, vals, rfl, ea2, l8, fun p H3 s3 ip => ?_⟩
    walk_at "rd"
    refine ⟨by show 2 ≤ sizeLine; decide, fun r hr' => ?_⟩
    have u := Same.upd (o := .tup [V.int ((vals.map V.int).length : Int), V.ref p]) hr'
    refine q _ _ ((s2.trans s3).trans u) (.tup upd_same (.cons ?_ (.cons (ip.same u) .nil)))
    rw [List.length_map]
    exact .int _
noncomputable def spx_beside (t : Ad) : Sp := fun vs H Q E => sp_beside vs H Q E ∨ spr_beside t vs H Q E
theorem okx_beside (T : Txt K mg t) : FnOk P w K mg base (CXE P w) 6 t.a_beside t.d_beside ["order", "thing"] (spx_beside t) := (ok_beside T).lift.or (okr_beside T)
noncomputable def spx_parted (t : Ad) : Sp := fun vs H Q E => sp_parted vs H Q E ∨ spr_parted t vs H Q E
theorem okx_parted (T : Txt K mg t) : FnOk P w K mg base (CXE P w) 6 t.a_parted t.d_parted ["order", "one", "other"] (spx_parted t) := (ok_parted T).lift.or (okr_parted T)
noncomputable def spx_fits (t : Ad) : Sp := fun vs H Q E => sp_fits vs H Q E ∨ spr_fits t vs H Q E
theorem okx_fits (T : Txt K mg t) : FnOk P w K mg base (CXE P w) 6 t.a_fits t.d_fits ["order", "step", "numbers"] (spx_fits t) := (ok_fits T).lift.or (okr_fits T)
noncomputable def spx_told (t : Ad) : Sp := fun vs H Q E => sp_told vs H Q E ∨ spr_told t vs H Q E
theorem okx_told (T : Txt K mg t) : FnOk P w K mg base (CXE P w) 4 t.a_told t.d_told ["step", "numbers"] (spx_told t) := (ok_told T).lift.or (okr_told T)
end
end My

set_option Elab.async false
set_option linter.all false
set_option maxRecDepth 100000
set_option maxHeartbeats 4000000
namespace My
open PySem L2
section
variable {P : Program} {w : World} {K : PySem.W.Frag} {mg : Str → Option Value} {base : Heap} {t : Ad}
/-! which refusal it is -/
noncomputable def refD (j : Nat) : PyData := .tuple [.str "refused", .int j]
structure Which (K : PySem.W.Frag) (t : Ad) (C : Addr) (j : Nat) : Prop where
  lt : j < 9
  Z : ExcC K C
  v : PySem.W.kitOne K (.ref C) (.type "ValueError") = some true
  x : PySem.W.exmOne K (.ref C) (.ref t.c_OrderError) = some true
  k0 : PySem.W.kitOne K (.ref C) (.ref t.c_NoOrder) = some (j == 0)
  k1 : PySem.W.kitOne K (.ref C) (.ref t.c_NoNumbers) = some (j == 1)
  k2 : PySem.W.kitOne K (.ref C) (.ref t.c_NoStep) = some (j == 2)
  k3 : PySem.W.kitOne K (.ref C) (.ref t.c_NoThing) = some (j == 3)
  k4 : PySem.W.kitOne K (.ref C) (.ref t.c_NoCount) = some (j == 4)
  k5 : PySem.W.kitOne K (.ref C) (.ref t.c_NoTelling) = some (j == 5)
  k6 : PySem.W.kitOne K (.ref C) (.ref t.c_Barred) = some (j == 6)
  k7 : PySem.W.kitOne K (.ref C) (.ref t.c_Full) = some (j == 7)
  k8 : PySem.W.kitOne K (.ref C) (.ref t.c_Nothing) = some (j == 8)
noncomputable def wL (j : Nat) : List Bool := [j == 0, j == 1, j == 2, j == 3, j == 4, j == 5, j == 6, j == 7, j == 8]
theorem wL_count {j : Nat} (h : j < 9) : (wL j).countP (· == true) = 1 := by
  have : ∀ j : Fin 9, (wL j.val).countP (· == true) = 1 := by decide
  exact this ⟨j, h⟩
theorem wL_at {j : Nat} (h : j < 9) : (wL j)[j]? = some true := by
  have : ∀ j : Fin 9, (wL j.val)[j.val]? = some true := by decide
  exact this ⟨j, h⟩
theorem wL_no {j : Nat} (h : j < 9) : ∀ m, m < j → (wL j)[m]? ≠ some true := by
  have : ∀ j m : Fin 9, m.val < j.val → (wL j.val)[m.val]? ≠ some true := by decide
  exact fun m hm => this ⟨j, h⟩ ⟨m, by omega⟩ hm
set_option genSizeOf false in
set_option genInjectivity false in
inductive sp_which (K : PySem.W.Frag) (t : Ad) (vs : List V) (H : Hp) (Q : VK) (zz3 : XK) : Prop where
  | mk (e C j : _) (zh0 : vs = [.ref e]) (zh1 : H e = some (excO e C)) (zh2 : Which K t C j) (zh3 : ∀ v H', Same H H' → Is H' v (refD j) → Q v H') : sp_which K t vs H Q zz3
theorem okH__law_which (T : Txt K mg t) : FnOkH P w K mg base 1 t.a__law_which t.d__law_which ["_law_e"] (sp_which K t) := by
  refine T.F__law_which.okH sc__law_which (fun vs H Q E h => ?_) (fun cdv A outer s H vs Q hr h => ?_)
  · obtain ⟨e, C, j, rfl, _⟩ := h
    rfl
  · obtain ⟨e, C, j, rfl, he, W, q⟩ := h
    refine ⟨_, (pss_cons (ps_set (i := 1) sc__law_which.nd rfl (Or.inl rfl) (pe_lst (pa_cons (pe_callB (k_isX K) (by rfl) T.n_isinstance bt_isinstance (pa_cons (pv 0) (pa_cons (pe_glob (v := .ref t.c_NoOrder) rfl T.g_NoOrder rfl) pa_nil))) (pa_cons (pe_callB (k_isX K) (by rfl) T.n_isinstance bt_isinstance (pa_cons (pv 0) (pa_cons (pe_glob (v := .ref t.c_NoNumbers) rfl T.g_NoNumbers rfl) pa_nil))) (pa_cons (pe_callB (k_isX K) (by rfl) T.n_isinstance bt_isinstance (pa_cons (pv 0) (pa_cons (pe_glob (v := .ref t.c_NoStep) rfl T.g_NoStep rfl) pa_nil))) (pa_cons (pe_callB (k_isX K) (by rfl) T.n_isinstance bt_isinstance (pa_cons (pv 0) (pa_cons (pe_glob (v := .ref t.c_NoThing) rfl T.g_NoThing rfl) pa_nil))) pa_nil))))))
      (pss_cons (ps_expr (k_bm K PySem.F.plainAttrs_list PySem.F.slot_list_extend PySem.F.type_list_extend mt_extend (pv 1) (pa_cons (pe_lst (pa_cons (pe_callB (k_isX K) (by rfl) T.n_isinstance bt_isinstance (pa_cons (pv 0) (pa_cons (pe_glob (v := .ref t.c_NoCount) rfl T.g_NoCount rfl) pa_nil))) (pa_cons (pe_callB (k_isX K) (by rfl) T.n_isinstance bt_isinstance (pa_cons (pv 0) (pa_cons (pe_glob (v := .ref t.c_NoTelling) rfl T.g_NoTelling rfl) pa_nil))) (pa_cons (pe_callB (k_isX K) (by rfl) T.n_isinstance bt_isinstance (pa_cons (pv 0) (pa_cons (pe_glob (v := .ref t.c_Barred) rfl T.g_Barred rfl) pa_nil))) (pa_cons (pe_callB (k_isX K) (by rfl) T.n_isinstance bt_isinstance (pa_cons (pv 0) (pa_cons (pe_glob (v := .ref t.c_Full) rfl T.g_Full rfl) pa_nil))) pa_nil))))) pa_nil)))
      (pss_cons (ps_expr (k_bm K PySem.F.plainAttrs_list PySem.F.slot_list_append PySem.F.type_list_append mt_append (pv 1) (pa_cons (pe_callB (k_isX K) (by rfl) T.n_isinstance bt_isinstance (pa_cons (pv 0) (pa_cons (pe_glob (v := .ref t.c_Nothing) rfl T.g_Nothing rfl) pa_nil))) pa_nil)))
      (pss_cons (ps_if (PW.pt (pw_or (pt_cmpR (op_neD hr.units) (k_bm K PySem.F.plainAttrs_list PySem.F.slot_list_count PySem.F.type_list_count mt_countB (pv 1) (pa_cons pe_bl pa_nil)) pe_int (nomark _)) (pw_or1 (pt_not (pt_val (pe_callB (k_isX K) (by rfl) T.n_isinstance bt_isinstance (pa_cons (pv 0) (pa_cons (pe_bltn (v := .ty "ValueError") rfl T.n_ValueError bt_ValueError rfl) pa_nil)))))))) (pss_one (ps_ret (pe_tup (pa_cons pe_str (pa_cons (pe_un un_neg pe_int) pa_nil))))) pss_nil)
      (pss_one (ps_ret (pe_tup (pa_cons pe_str (pa_cons (k_bm K PySem.F.plainAttrs_list PySem.F.slot_list_index PySem.F.type_list_index mt_indexB (pv 1) (pa_cons pe_bl pa_nil)) pa_nil))))))))), ?_⟩
    walk_at "rd"
    refine rd_isXo he W.Z W.k0 ?_
    walk_at "rd"
    refine rd_isXo he W.Z W.k1 ?_
    walk_at "rd"
    refine rd_isXo he W.Z W.k2 ?_
    walk_at "rd"
    refine rd_isXo he W.Z W.k3 ?_
    walk_at "rd"
    refine ⟨by show 4 ≤ sizeLine; decide, fun l hl => ?_⟩
    have nle : e ≠ l := ne_of_none he hl
    have s1 := Same.upd (o := .lst [V.bl (j == 0), V.bl (j == 1), V.bl (j == 2), V.bl (j == 3)]) hl
    have el1 : upd H l (.lst [V.bl (j == 0), V.bl (j == 1), V.bl (j == 2), V.bl (j == 3)]) l = some (.lst [V.bl (j == 0), V.bl (j == 1), V.bl (j == 2), V.bl (j == 3)]) := upd_same
    have he1 := s1 _ _ he
    generalize upd H l (.lst [V.bl (j == 0), V.bl (j == 1), V.bl (j == 2), V.bl (j == 3)]) = H1 at s1 el1 he1
    walk_at "rd"
    refine ⟨tyV_lst el1, ?_⟩
    walk_at "rd"
    refine rd_isXo he1 W.Z W.k4 ?_
    walk_at "rd"
    refine rd_isXo he1 W.Z W.k5 ?_
    walk_at "rd"
    refine rd_isXo he1 W.Z W.k6 ?_
    walk_at "rd"
    refine rd_isXo he1 W.Z W.k7 ?_
    walk_at "rd"
    refine ⟨by show 4 ≤ sizeLine; decide, fun m hm => ?_⟩
    have s2 := Same.upd (o := .lst [V.bl (j == 4), V.bl (j == 5), V.bl (j == 6), V.bl (j == 7)]) hm
    walk_at "rd"
    refine rd_extend (s2 _ _ el1) upd_same (by show 8 ≤ sizeLine; decide) ?_
    have s3 : ∀ b u, H b = some u → upd (upd H1 m (.lst [V.bl (j == 4), V.bl (j == 5), V.bl (j == 6), V.bl (j == 7)])) l (.lst ([V.bl (j == 0), V.bl (j == 1), V.bl (j == 2), V.bl (j == 3)] ++ [V.bl (j == 4), V.bl (j == 5), V.bl (j == 6), V.bl (j == 7)])) b = some u := fun b u eb => by
      rw [upd_ne (ne_of_none eb hl)]
      exact s2 _ _ (s1 _ _ eb)
    have el2 : upd (upd H1 m (.lst [V.bl (j == 4), V.bl (j == 5), V.bl (j == 6), V.bl (j == 7)])) l (.lst ([V.bl (j == 0), V.bl (j == 1), V.bl (j == 2), V.bl (j == 3)] ++ [V.bl (j == 4), V.bl (j == 5), V.bl (j == 6), V.bl (j == 7)])) l = some (.lst ([V.bl (j == 0), V.bl (j == 1), V.bl (j == 2), V.bl (j == 3)] ++ [V.bl (j == 4), V.bl (j == 5), V.bl (j == 6), V.bl (j == 7)])) := upd_same
    generalize upd (upd H1 m (.lst [V.bl (j == 4), V.bl (j == 5), V.bl (j == 6), V.bl (j == 7)])) l (.lst ([V.bl (j == 0), V.bl (j == 1), V.bl (j == 2), V.bl (j == 3)] ++ [V.bl (j == 4), V.bl (j == 5), V.bl (j == 6), V.bl (j == 7)])) = H2 at s3 el2
    have he2 := s3 _ _ he
    walk_at "rd"
    refine ⟨tyV_lst el2, ?_⟩
    walk_at "rd"
    refine rd_isXo he2 W.Z W.k8 ?_
    walk_at "rd"
    refine rd_append el2 (by show 8 < sizeLine; decide) ?_
    have s6 : Same H (upd H2 l (.lst (([V.bl (j == 0), V.bl (j == 1), V.bl (j == 2), V.bl (j == 3)] ++ [V.bl (j == 4), V.bl (j == 5), V.bl (j == 6), V.bl (j == 7)]) ++ [V.bl (j == 8)]))) := fun b u eb => by
      rw [upd_ne (ne_of_none eb hl)]
      exact s3 _ _ eb
    have el4 : upd H2 l (.lst (([V.bl (j == 0), V.bl (j == 1), V.bl (j == 2), V.bl (j == 3)] ++ [V.bl (j == 4), V.bl (j == 5), V.bl (j == 6), V.bl (j == 7)]) ++ [V.bl (j == 8)])) l = some (.lst ((wL j).map V.bl)) := upd_same
    generalize upd H2 l (.lst (([V.bl (j == 0), V.bl (j == 1), V.bl (j == 2), V.bl (j == 3)] ++ [V.bl (j == 4), V.bl (j == 5), V.bl (j == 6), V.bl (j == 7)]) ++ [V.bl (j == 8)])) = H4 at s6 el4
    have he4 := s6 _ _ he
    walk_at "rd"
    refine ⟨tyV_lst el4, ?_⟩
    walk_at "rd"
    refine rd_countB el4 ?_
    rw [wL_count W.lt]
    walk_at "rd"
    refine ifF rfl ?_
    walk_at "rd"
    refine rd_isXt he4 W.Z W.v ?_
    walk_at "rd"
    refine ⟨tyV_lst el4, ?_⟩
    walk_at "rd"
    refine rd_indexB el4 (wL_at W.lt) (wL_no W.lt) ?_
    refine ⟨by show 2 ≤ sizeLine; decide, fun p hp => ?_⟩
    exact q _ _ (s6.trans (Same.upd hp)) (.tup upd_same (.cons (.str _) (.cons (.int _) .nil)))
end
end My

set_option Elab.async false
set_option linter.all false
set_option maxRecDepth 100000
set_option maxHeartbeats 4000000
namespace My
open PySem L2
section
variable {P : Program} {w : World} {K : PySem.W.Frag} {mg : Str → Option Value} {base : Heap} {t : Ad}
theorem which_order (T : Txt K mg t) : Which K t t.c_NoOrder 0 := ⟨by decide, T.Z_NoOrder, T.v_NoOrder, T.x_NoOrder, kit_yes, T.q_NoOrder_NoNumbers, T.q_NoOrder_NoStep, T.q_NoOrder_NoThing, T.q_NoOrder_NoCount, T.q_NoOrder_NoTelling, T.q_NoOrder_Barred, T.q_NoOrder_Full, T.q_NoOrder_Nothing⟩
theorem which_numbers (T : Txt K mg t) : Which K t t.c_NoNumbers 1 := ⟨by decide, T.Z_NoNumbers, T.v_NoNumbers, T.x_NoNumbers, T.q_NoNumbers_NoOrder, kit_yes, T.q_NoNumbers_NoStep, T.q_NoNumbers_NoThing, T.q_NoNumbers_NoCount, T.q_NoNumbers_NoTelling, T.q_NoNumbers_Barred, T.q_NoNumbers_Full, T.q_NoNumbers_Nothing⟩
theorem which_step (T : Txt K mg t) : Which K t t.c_NoStep 2 := ⟨by decide, T.Z_NoStep, T.v_NoStep, T.x_NoStep, T.q_NoStep_NoOrder, T.q_NoStep_NoNumbers, kit_yes, T.q_NoStep_NoThing, T.q_NoStep_NoCount, T.q_NoStep_NoTelling, T.q_NoStep_Barred, T.q_NoStep_Full, T.q_NoStep_Nothing⟩
theorem which_thing (T : Txt K mg t) : Which K t t.c_NoThing 3 := ⟨by decide, T.Z_NoThing, T.v_NoThing, T.x_NoThing, T.q_NoThing_NoOrder, T.q_NoThing_NoNumbers, T.q_NoThing_NoStep, kit_yes, T.q_NoThing_NoCount, T.q_NoThing_NoTelling, T.q_NoThing_Barred, T.q_NoThing_Full, T.q_NoThing_Nothing⟩
inductive Ask (K : PySem.W.Frag) (t : Ad) (H : Hp) (Q : VK) : Int → V → V → V → Prop
  | odd {k : Int} {x y z : V} {d e g : PyData} : 0 ≤ k → k ≤ 11 → Is H x d → Is H y e → Is H z g → FewN g → okOrd d → orderB d = false → (∀ v H', Same H H' → Is H' v (refD 0) → Q v H') → Ask K t H Q k x y z
  | th1 {k : Int} {x y z : V} {n : Nat} {ps : List (Int × Int)} {e g : PyData} : k = 5 ∨ k = 11 → Is H x (ordD n ps) → Ord n ps → Is H y e → Is H z g → wholeB e 0 ((n : Int) - 1) = false → (∀ v H', Same H H' → Is H' v (refD 3) → Q v H') → Ask K t H Q k x y z
  | th2 {x y z : V} {n : Nat} {ps : List (Int × Int)} {e g : PyData} : Is H x (ordD n ps) → Ord n ps → Is H y e → Is H z g → wholeB e 0 ((n : Int) - 1) = true → wholeB g 0 ((n : Int) - 1) = false → (∀ v H', Same H H' → Is H' v (refD 3) → Q v H') → Ask K t H Q 11 x y z
  | st {k : Int} {x y z : V} {n : Nat} {ps : List (Int × Int)} {e g : PyData} : 7 ≤ k → k ≤ 10 → Is H x (ordD n ps) → Ord n ps → Is H y e → Is H z g → FewN g → wholeB e 1 999 = false → (∀ v H', Same H H' → Is H' v (refD 2) → Q v H') → Ask K t H Q k x y z
  | st12 {x y z : V} {d e : PyData} : Is H x d → Is H y e → FewN e → wholeB d 1 999 = false → (∀ v H', Same H H' → Is H' v (refD 2) → Q v H') → Ask K t H Q 12 x y z
  | nu12 {x y z : V} {d e : PyData} : Is H x d → Is H y e → FewN e → wholeB d 1 999 = true → numsB e 1 8 = false → (∀ v H', Same H H' → Is H' v (refD 1) → Q v H') → Ask K t H Q 12 x y z
  | nu9 {x y z : V} {n : Nat} {ps : List (Int × Int)} {e g : PyData} : Is H x (ordD n ps) → Ord n ps → Is H y e → Is H z g → FewN g → wholeB e 1 999 = true → numsB g (n : Int) (n : Int) = false → (∀ v H', Same H H' → Is H' v (refD 1) → Q v H') → Ask K t H Q 9 x y z
  | bes {x z : V} {n : Nat} {ps : List (Int × Int)} {a : Int} : Is H x (ordD n ps) → Ord n ps → 0 ≤ a → a < (n : Int) → (∀ l H', Same H H' → H' l = some (.lst ((besL n ps a).map V.int)) → Q (.ref l) H') → Ask K t H Q 5 x (.int a) z
  | par {x : V} {n : Nat} {ps : List (Int × Int)} {a b : Int} : Is H x (ordD n ps) → Ord n ps → 0 ≤ a → a < (n : Int) → 0 ≤ b → b < (n : Int) → (∀ H', Same H H' → Q (prtV n ps a b) H') → Ask K t H Q 11 x (.int a) (.int b)
  | tld {z : V} {st : Int} {a : Addr} {vals : List Int} : 1 ≤ st → st ≤ 999 → H a = some (.tup (vals.map V.int)) → 1 ≤ vals.length → vals.length ≤ 8 → (∀ v ∈ vals, 0 ≤ v ∧ v ≤ 9999) → (∀ x H', Same H H' → Is H' x (ordD vals.length (toldL st vals)) → Q x H') → Ask K t H Q 12 (.int st) (.ref a) z
  | fit {x : V} {n : Nat} {ps : List (Int × Int)} {st : Int} {a : Addr} {vals : List Int} : Is H x (ordD n ps) → Ord n ps → 1 ≤ st → st ≤ 999 → H a = some (.tup (vals.map V.int)) → vals.length = n → (∀ v ∈ vals, 0 ≤ v ∧ v ≤ 9999) → (∀ H', Same H H' → Q (.bl (decide (toldL st vals = ps))) H') → Ask K t H Q 9 x (.int st) (.ref a)
set_option genSizeOf false in
set_option genInjectivity false in
inductive sp_ask (K : PySem.W.Frag) (t : Ad) (vs : List V) (H : Hp) (Q : VK) (zz3 : XK) : Prop where
  | mk (k : Int) (x : V) (y : V) (z : V) (zh0 : vs = [.int k, x, y, z]) (zh1 : Ask K t H Q k x y z) : sp_ask K t vs H Q zz3
theorem ok__law_ask (T : Txt K mg t) : FnOk P w K mg base CX0 10 t.a__law_ask t.d__law_ask ["_law_what", "_law_order_here", "_law_one", "_law_other"] (sp_ask K t) := by
  refine T.F__law_ask.ok sc__law_ask (fun vs H Q E h => ?_) (fun cdv A outer s H vs Q E hr h => ?_)
  · obtain ⟨k, x, y, z, rfl, _⟩ := h
    rfl
  · obtain ⟨k, x, y, z, rfl, h⟩ := h
    refine ⟨_, (pss_one (ps_try (i := 4) rfl sc__law_ask.nd rfl rfl rfl rfl rfl rfl T.g_OrderError (fun pn E1 Eb hp => (pss_cons (ps_if (pt_cmpR (op_lt) (pv 0) pe_int (nomark _)) (pss_one (ps_ret (pe_callS (.cons (okx_bar T) (hr.mono (by decide)) T.F_bar.kp T.b_bar hp (.cons (okx_least T) (hr.mono (by decide)) T.F_least.kp T.b_least hp (.cons (okx_least_step T) (hr.mono (by decide)) T.F_least_step.kp T.b_least_step hp (.cons (okx_longest T) (hr.mono (by decide)) T.F_longest.kp T.b_longest hp (.cons (okx_row T) (hr.mono (by decide)) T.F_row.kp T.b_row hp .nil))))) (pe_ix (k_ix K) (pe_lst (pa_cons (pe_glob (v := .ref t.a_bar) rfl T.m_bar rfl) (pa_cons (pe_glob (v := .ref t.a_least) rfl T.m_least rfl) (pa_cons (pe_glob (v := .ref t.a_least_step) rfl T.m_least_step rfl) (pa_cons (pe_glob (v := .ref t.a_longest) rfl T.m_longest rfl) (pa_cons (pe_glob (v := .ref t.a_row) rfl T.m_row rfl) pa_nil)))))) (pv 0) (fun _ _ => rfl)) (pa_cons (pv 1) pa_nil)))) pss_nil)
      (pss_cons (ps_if (pt_cmpR (op_lt) (pv 0) pe_int (nomark _)) (pss_one (ps_ret (pe_callS (.cons (okx_beside T) (hr.mono (by decide)) T.F_beside.kp T.b_beside hp (.cons (okx_is_bar T) (hr.mono (by decide)) T.F_is_bar.kp T.b_is_bar hp (.cons (okx_numbers T) (hr.mono (by decide)) T.F_numbers.kp T.b_numbers hp (.cons (okx_round_of T) (hr.mono (by decide)) T.F_round_of.kp T.b_round_of hp .nil)))) (pe_ix (k_ix K) (pe_lst (pa_cons (pe_glob (v := .ref t.a_beside) rfl T.m_beside rfl) (pa_cons (pe_glob (v := .ref t.a_is_bar) rfl T.m_is_bar rfl) (pa_cons (pe_glob (v := .ref t.a_numbers) rfl T.m_numbers rfl) (pa_cons (pe_glob (v := .ref t.a_round_of) rfl T.m_round_of rfl) pa_nil))))) (pe_op op_sub (pv 0) pe_int) (fun _ _ => rfl)) (pa_cons (pv 1) (pa_cons (pv 2) pa_nil))))) pss_nil)
      (pss_cons (ps_if (pt_cmpR (op_lt) (pv 0) pe_int (nomark _)) (pss_one (ps_ret (pe_callS (.cons (okx_fits T) (hr.mono (by decide)) T.F_fits.kp T.b_fits hp (.cons (okx_is_round T) (hr.mono (by decide)) T.F_is_round.kp T.b_is_round hp (.cons (okx_parted T) (hr.mono (by decide)) T.F_parted.kp T.b_parted hp .nil))) (pe_ix (k_ix K) (pe_lst (pa_cons (pe_glob (v := .ref t.a_fits) rfl T.m_fits rfl) (pa_cons (pe_glob (v := .ref t.a_is_round) rfl T.m_is_round rfl) (pa_cons (pe_glob (v := .ref t.a_parted) rfl T.m_parted rfl) pa_nil)))) (pe_op op_sub (pv 0) pe_int) (fun _ _ => rfl)) (pa_cons (pv 1) (pa_cons (pv 2) (pa_cons (pv 3) pa_nil)))))) pss_nil)
      (pss_one (ps_ret (pe_call (okx_told T) (hr.mono (by decide)) rfl T.m_told T.F_told.kp T.b_told .nil hp (pa_cons (pv 1) (pa_cons (pv 2) pa_nil))))))))) (fun ex => (pss_one (ps_ret (pe_callH (okH__law_which T) ((hr.mono (by decide)).mark _) rfl T.m__law_which T.F__law_which.kp T.b__law_which (pa_cons (pv 4) pa_nil))))))), ?_⟩
    cases h with
    | odd k0 k1 hx hy hz fw hok hd q =>
      obtain rfl | rfl | rfl | rfl | rfl | rfl | rfl | rfl | rfl | rfl | rfl | rfl : k = 0 ∨ k = 1 ∨ k = 2 ∨ k = 3 ∨ k = 4 ∨ k = 5 ∨ k = 6 ∨ k = 7 ∨ k = 8 ∨ k = 9 ∨ k = 10 ∨ k = 11 := by omega
      · walk_at "rd"
        refine ifT rfl ?_
        walk_at "rd"
        refine rd_callS ?_
        walk_at "rd"
        refine ⟨by show 5 ≤ sizeLine; decide, fun l hl => ?_⟩
        have s0 := Same.upd (o := .lst [V.ref t.a_bar, V.ref t.a_least, V.ref t.a_least_step, V.ref t.a_longest, V.ref t.a_row]) hl
        have el : upd H l (.lst [V.ref t.a_bar, V.ref t.a_least, V.ref t.a_least_step, V.ref t.a_longest, V.ref t.a_row]) l = some (.lst [V.ref t.a_bar, V.ref t.a_least, V.ref t.a_least_step, V.ref t.a_longest, V.ref t.a_row]) := upd_same
        generalize upd H l (.lst [V.ref t.a_bar, V.ref t.a_least, V.ref t.a_least_step, V.ref t.a_longest, V.ref t.a_row]) = H0 at s0 el
        walk_at "rd"
        refine ⟨0, _, _, rfl, rfl, ?_⟩
        walk_at "rd"
        refine ⟨_, _, rfl, hx.same s0, hok, hd, fun H1 s1 => ?_⟩
        have W := which_order T
        refine ⟨_, rfl, W.x, fun ex σ hex hi => ?_⟩
        walk_at "rd"
        refine rd_var (List.getElem?_set_self hi) ?_
        walk_at "rd"
        exact ⟨ex, _, _, rfl, upd_same, W, fun v H2 s2 iv => q v H2 (((s0.trans s1).trans (Same.upd hex)).trans s2) iv⟩
      · walk_at "rd"
        refine ifT rfl ?_
        walk_at "rd"
        refine rd_callS ?_
        walk_at "rd"
        refine ⟨by show 5 ≤ sizeLine; decide, fun l hl => ?_⟩
        have s0 := Same.upd (o := .lst [V.ref t.a_bar, V.ref t.a_least, V.ref t.a_least_step, V.ref t.a_longest, V.ref t.a_row]) hl
        have el : upd H l (.lst [V.ref t.a_bar, V.ref t.a_least, V.ref t.a_least_step, V.ref t.a_longest, V.ref t.a_row]) l = some (.lst [V.ref t.a_bar, V.ref t.a_least, V.ref t.a_least_step, V.ref t.a_longest, V.ref t.a_row]) := upd_same
        generalize upd H l (.lst [V.ref t.a_bar, V.ref t.a_least, V.ref t.a_least_step, V.ref t.a_longest, V.ref t.a_row]) = H0 at s0 el
        walk_at "rd"
        refine ⟨1, _, _, rfl, rfl, ?_⟩
        walk_at "rd"
        refine ⟨_, _, rfl, hx.same s0, hok, hd, fun H1 s1 => ?_⟩
        have W := which_order T
        refine ⟨_, rfl, W.x, fun ex σ hex hi => ?_⟩
        walk_at "rd"
        refine rd_var (List.getElem?_set_self hi) ?_
        walk_at "rd"
        exact ⟨ex, _, _, rfl, upd_same, W, fun v H2 s2 iv => q v H2 (((s0.trans s1).trans (Same.upd hex)).trans s2) iv⟩
      · walk_at "rd"
        refine ifT rfl ?_
        walk_at "rd"
        refine rd_callS ?_
        walk_at "rd"
        refine ⟨by show 5 ≤ sizeLine; decide, fun l hl => ?_⟩
        have s0 := Same.upd (o := .lst [V.ref t.a_bar, V.ref t.a_least, V.ref t.a_least_step, V.ref t.a_longest, V.ref t.a_row]) hl
        have el : upd H l (.lst [V.ref t.a_bar, V.ref t.a_least, V.ref t.a_least_step, V.ref t.a_longest, V.ref t.a_row]) l = some (.lst [V.ref t.a_bar, V.ref t.a_least, V.ref t.a_least_step, V.ref t.a_longest, V.ref t.a_row]) := upd_same
        generalize upd H l (.lst [V.ref t.a_bar, V.ref t.a_least, V.ref t.a_least_step, V.ref t.a_longest, V.ref t.a_row]) = H0 at s0 el
        walk_at "rd"
        refine ⟨2, _, _, rfl, rfl, ?_⟩
        walk_at "rd"
        refine ⟨_, _, rfl, hx.same s0, hok, hd, fun H1 s1 => ?_⟩
        have W := which_order T
        refine ⟨_, rfl, W.x, fun ex σ hex hi => ?_⟩
        walk_at "rd"
        refine rd_var (List.getElem?_set_self hi) ?_
        walk_at "rd"
        exact ⟨ex, _, _, rfl, upd_same, W, fun v H2 s2 iv => q v H2 (((s0.trans s1).trans (Same.upd hex)).trans s2) iv⟩
      · walk_at "rd"
        refine ifT rfl ?_
        walk_at "rd"
        refine rd_callS ?_
        walk_at "rd"
        refine ⟨by show 5 ≤ sizeLine; decide, fun l hl => ?_⟩
        have s0 := Same.upd (o := .lst [V.ref t.a_bar, V.ref t.a_least, V.ref t.a_least_step, V.ref t.a_longest, V.ref t.a_row]) hl
        have el : upd H l (.lst [V.ref t.a_bar, V.ref t.a_least, V.ref t.a_least_step, V.ref t.a_longest, V.ref t.a_row]) l = some (.lst [V.ref t.a_bar, V.ref t.a_least, V.ref t.a_least_step, V.ref t.a_longest, V.ref t.a_row]) := upd_same
        generalize upd H l (.lst [V.ref t.a_bar, V.ref t.a_least, V.ref t.a_least_step, V.ref t.a_longest, V.ref t.a_row]) = H0 at s0 el
        walk_at "rd"
        refine ⟨3, _, _, rfl, rfl, ?_⟩
        walk_at "rd"
        refine ⟨_, _, rfl, hx.same s0, hok, hd, fun H1 s1 => ?_⟩
        have W := which_order T
        refine ⟨_, rfl, W.x, fun ex σ hex hi => ?_⟩
        walk_at "rd"
        refine rd_var (List.getElem?_set_self hi) ?_
        walk_at "rd"
        exact ⟨ex, _, _, rfl, upd_same, W, fun v H2 s2 iv => q v H2 (((s0.trans s1).trans (Same.upd hex)).trans s2) iv⟩
      · walk_at "rd"
        refine ifT rfl ?_
        walk_at "rd"
        refine rd_callS ?_
        walk_at "rd"
        refine ⟨by show 5 ≤ sizeLine; decide, fun l hl => ?_⟩
        have s0 := Same.upd (o := .lst [V.ref t.a_bar, V.ref t.a_least, V.ref t.a_least_step, V.ref t.a_longest, V.ref t.a_row]) hl
        have el : upd H l (.lst [V.ref t.a_bar, V.ref t.a_least, V.ref t.a_least_step, V.ref t.a_longest, V.ref t.a_row]) l = some (.lst [V.ref t.a_bar, V.ref t.a_least, V.ref t.a_least_step, V.ref t.a_longest, V.ref t.a_row]) := upd_same
        generalize upd H l (.lst [V.ref t.a_bar, V.ref t.a_least, V.ref t.a_least_step, V.ref t.a_longest, V.ref t.a_row]) = H0 at s0 el
        walk_at "rd"
        refine ⟨4, _, _, rfl, rfl, ?_⟩
        walk_at "rd"
        refine ⟨_, _, rfl, hx.same s0, hok, hd, fun H1 s1 => ?_⟩
        have W := which_order T
        refine ⟨_, rfl, W.x, fun ex σ hex hi => ?_⟩
        walk_at "rd"
        refine rd_var (List.getElem?_set_self hi) ?_
        walk_at "rd"
        exact ⟨ex, _, _, rfl, upd_same, W, fun v H2 s2 iv => q v H2 (((s0.trans s1).trans (Same.upd hex)).trans s2) iv⟩
      · walk_at "rd"
        refine ifF rfl ?_
        walk_at "rd"
        refine ifT rfl ?_
        walk_at "rd"
        refine rd_callS ?_
        walk_at "rd"
        refine ⟨by show 4 ≤ sizeLine; decide, fun l hl => ?_⟩
        have s0 := Same.upd (o := .lst [V.ref t.a_beside, V.ref t.a_is_bar, V.ref t.a_numbers, V.ref t.a_round_of]) hl
        have el : upd H l (.lst [V.ref t.a_beside, V.ref t.a_is_bar, V.ref t.a_numbers, V.ref t.a_round_of]) l = some (.lst [V.ref t.a_beside, V.ref t.a_is_bar, V.ref t.a_numbers, V.ref t.a_round_of]) := upd_same
        generalize upd H l (.lst [V.ref t.a_beside, V.ref t.a_is_bar, V.ref t.a_numbers, V.ref t.a_round_of]) = H0 at s0 el
        walk_at "rd"
        refine ⟨0, _, _, rfl, rfl, ?_⟩
        walk_at "rd"
        refine .inr ⟨_, _, _, _, rfl, hx.same s0, hy.same s0, .inl ⟨hok, hd, fun H1 s1 => ?_⟩⟩
        have W := which_order T
        refine ⟨_, rfl, W.x, fun ex σ hex hi => ?_⟩
        walk_at "rd"
        refine rd_var (List.getElem?_set_self hi) ?_
        walk_at "rd"
        exact ⟨ex, _, _, rfl, upd_same, W, fun v H2 s2 iv => q v H2 (((s0.trans s1).trans (Same.upd hex)).trans s2) iv⟩
      · walk_at "rd"
        refine ifF rfl ?_
        walk_at "rd"
        refine ifT rfl ?_
        walk_at "rd"
        refine rd_callS ?_
        walk_at "rd"
        refine ⟨by show 4 ≤ sizeLine; decide, fun l hl => ?_⟩
        have s0 := Same.upd (o := .lst [V.ref t.a_beside, V.ref t.a_is_bar, V.ref t.a_numbers, V.ref t.a_round_of]) hl
        have el : upd H l (.lst [V.ref t.a_beside, V.ref t.a_is_bar, V.ref t.a_numbers, V.ref t.a_round_of]) l = some (.lst [V.ref t.a_beside, V.ref t.a_is_bar, V.ref t.a_numbers, V.ref t.a_round_of]) := upd_same
        generalize upd H l (.lst [V.ref t.a_beside, V.ref t.a_is_bar, V.ref t.a_numbers, V.ref t.a_round_of]) = H0 at s0 el
        walk_at "rd"
        refine ⟨1, _, _, rfl, rfl, ?_⟩
        walk_at "rd"
        refine ⟨_, _, _, rfl, hx.same s0, hok, hd, fun H1 s1 => ?_⟩
        have W := which_order T
        refine ⟨_, rfl, W.x, fun ex σ hex hi => ?_⟩
        walk_at "rd"
        refine rd_var (List.getElem?_set_self hi) ?_
        walk_at "rd"
        exact ⟨ex, _, _, rfl, upd_same, W, fun v H2 s2 iv => q v H2 (((s0.trans s1).trans (Same.upd hex)).trans s2) iv⟩
      · walk_at "rd"
        refine ifF rfl ?_
        walk_at "rd"
        refine ifT rfl ?_
        walk_at "rd"
        refine rd_callS ?_
        walk_at "rd"
        refine ⟨by show 4 ≤ sizeLine; decide, fun l hl => ?_⟩
        have s0 := Same.upd (o := .lst [V.ref t.a_beside, V.ref t.a_is_bar, V.ref t.a_numbers, V.ref t.a_round_of]) hl
        have el : upd H l (.lst [V.ref t.a_beside, V.ref t.a_is_bar, V.ref t.a_numbers, V.ref t.a_round_of]) l = some (.lst [V.ref t.a_beside, V.ref t.a_is_bar, V.ref t.a_numbers, V.ref t.a_round_of]) := upd_same
        generalize upd H l (.lst [V.ref t.a_beside, V.ref t.a_is_bar, V.ref t.a_numbers, V.ref t.a_round_of]) = H0 at s0 el
        walk_at "rd"
        refine ⟨2, _, _, rfl, rfl, ?_⟩
        walk_at "rd"
        refine ⟨_, _, _, _, rfl, hx.same s0, hy.same s0, .inl ⟨hok, hd, fun H1 s1 => ?_⟩⟩
        have W := which_order T
        refine ⟨_, rfl, W.x, fun ex σ hex hi => ?_⟩
        walk_at "rd"
        refine rd_var (List.getElem?_set_self hi) ?_
        walk_at "rd"
        exact ⟨ex, _, _, rfl, upd_same, W, fun v H2 s2 iv => q v H2 (((s0.trans s1).trans (Same.upd hex)).trans s2) iv⟩
      · walk_at "rd"
        refine ifF rfl ?_
        walk_at "rd"
        refine ifT rfl ?_
        walk_at "rd"
        refine rd_callS ?_
        walk_at "rd"
        refine ⟨by show 4 ≤ sizeLine; decide, fun l hl => ?_⟩
        have s0 := Same.upd (o := .lst [V.ref t.a_beside, V.ref t.a_is_bar, V.ref t.a_numbers, V.ref t.a_round_of]) hl
        have el : upd H l (.lst [V.ref t.a_beside, V.ref t.a_is_bar, V.ref t.a_numbers, V.ref t.a_round_of]) l = some (.lst [V.ref t.a_beside, V.ref t.a_is_bar, V.ref t.a_numbers, V.ref t.a_round_of]) := upd_same
        generalize upd H l (.lst [V.ref t.a_beside, V.ref t.a_is_bar, V.ref t.a_numbers, V.ref t.a_round_of]) = H0 at s0 el
        walk_at "rd"
        refine ⟨3, _, _, rfl, rfl, ?_⟩
        walk_at "rd"
        refine ⟨_, _, _, _, rfl, hx.same s0, hy.same s0, .inl ⟨hok, hd, fun H1 s1 => ?_⟩⟩
        have W := which_order T
        refine ⟨_, rfl, W.x, fun ex σ hex hi => ?_⟩
        walk_at "rd"
        refine rd_var (List.getElem?_set_self hi) ?_
        walk_at "rd"
        exact ⟨ex, _, _, rfl, upd_same, W, fun v H2 s2 iv => q v H2 (((s0.trans s1).trans (Same.upd hex)).trans s2) iv⟩
      · walk_at "rd"
        refine ifF rfl ?_
        walk_at "rd"
        refine ifF rfl ?_
        walk_at "rd"
        refine ifT rfl ?_
        walk_at "rd"
        refine rd_callS ?_
        walk_at "rd"
        refine ⟨by show 3 ≤ sizeLine; decide, fun l hl => ?_⟩
        have s0 := Same.upd (o := .lst [V.ref t.a_fits, V.ref t.a_is_round, V.ref t.a_parted]) hl
        have el : upd H l (.lst [V.ref t.a_fits, V.ref t.a_is_round, V.ref t.a_parted]) l = some (.lst [V.ref t.a_fits, V.ref t.a_is_round, V.ref t.a_parted]) := upd_same
        generalize upd H l (.lst [V.ref t.a_fits, V.ref t.a_is_round, V.ref t.a_parted]) = H0 at s0 el
        walk_at "rd"
        refine ⟨0, _, _, rfl, rfl, ?_⟩
        walk_at "rd"
        refine .inr ⟨_, _, _, _, _, _, rfl, hx.same s0, hy.same s0, hz.same s0, fw, .inl ⟨hok, hd, fun H1 s1 => ?_⟩⟩
        have W := which_order T
        refine ⟨_, rfl, W.x, fun ex σ hex hi => ?_⟩
        walk_at "rd"
        refine rd_var (List.getElem?_set_self hi) ?_
        walk_at "rd"
        exact ⟨ex, _, _, rfl, upd_same, W, fun v H2 s2 iv => q v H2 (((s0.trans s1).trans (Same.upd hex)).trans s2) iv⟩
      · walk_at "rd"
        refine ifF rfl ?_
        walk_at "rd"
        refine ifF rfl ?_
        walk_at "rd"
        refine ifT rfl ?_
        walk_at "rd"
        refine rd_callS ?_
        walk_at "rd"
        refine ⟨by show 3 ≤ sizeLine; decide, fun l hl => ?_⟩
        have s0 := Same.upd (o := .lst [V.ref t.a_fits, V.ref t.a_is_round, V.ref t.a_parted]) hl
        have el : upd H l (.lst [V.ref t.a_fits, V.ref t.a_is_round, V.ref t.a_parted]) l = some (.lst [V.ref t.a_fits, V.ref t.a_is_round, V.ref t.a_parted]) := upd_same
        generalize upd H l (.lst [V.ref t.a_fits, V.ref t.a_is_round, V.ref t.a_parted]) = H0 at s0 el
        walk_at "rd"
        refine ⟨1, _, _, rfl, rfl, ?_⟩
        walk_at "rd"
        refine ⟨_, _, _, _, _, rfl, hx.same s0, hy.same s0, .inl ⟨hok, hd, fun H1 s1 => ?_⟩⟩
        have W := which_order T
        refine ⟨_, rfl, W.x, fun ex σ hex hi => ?_⟩
        walk_at "rd"
        refine rd_var (List.getElem?_set_self hi) ?_
        walk_at "rd"
        exact ⟨ex, _, _, rfl, upd_same, W, fun v H2 s2 iv => q v H2 (((s0.trans s1).trans (Same.upd hex)).trans s2) iv⟩
      · walk_at "rd"
        refine ifF rfl ?_
        walk_at "rd"
        refine ifF rfl ?_
        walk_at "rd"
        refine ifT rfl ?_
        walk_at "rd"
        refine rd_callS ?_
        walk_at "rd"
        refine ⟨by show 3 ≤ sizeLine; decide, fun l hl => ?_⟩
        have s0 := Same.upd (o := .lst [V.ref t.a_fits, V.ref t.a_is_round, V.ref t.a_parted]) hl
        have el : upd H l (.lst [V.ref t.a_fits, V.ref t.a_is_round, V.ref t.a_parted]) l = some (.lst [V.ref t.a_fits, V.ref t.a_is_round, V.ref t.a_parted]) := upd_same
        generalize upd H l (.lst [V.ref t.a_fits, V.ref t.a_is_round, V.ref t.a_parted]) = H0 at s0 el
        walk_at "rd"
        refine ⟨2, _, _, rfl, rfl, ?_⟩
        walk_at "rd"
        refine .inr ⟨_, _, _, _, _, _, rfl, hx.same s0, hy.same s0, hz.same s0, .inl ⟨hok, hd, fun H1 s1 => ?_⟩⟩
        have W := which_order T
        refine ⟨_, rfl, W.x, fun ex σ hex hi => ?_⟩
        walk_at "rd"
        refine rd_var (List.getElem?_set_self hi) ?_
        walk_at "rd"
        exact ⟨ex, _, _, rfl, upd_same, W, fun v H2 s2 iv => q v H2 (((s0.trans s1).trans (Same.upd hex)).trans s2) iv⟩
    | @th1 k x y z n ps e g hk hx ho hy hz hw q =>
      rcases hk with rfl | rfl
      · walk_at "rd"
        refine ifF rfl ?_
        walk_at "rd"
        refine ifT rfl ?_
        walk_at "rd"
        refine rd_callS ?_
        walk_at "rd"
        refine ⟨by show 4 ≤ sizeLine; decide, fun l hl => ?_⟩
        have s0 := Same.upd (o := .lst [V.ref t.a_beside, V.ref t.a_is_bar, V.ref t.a_numbers, V.ref t.a_round_of]) hl
        have el : upd H l (.lst [V.ref t.a_beside, V.ref t.a_is_bar, V.ref t.a_numbers, V.ref t.a_round_of]) l = some (.lst [V.ref t.a_beside, V.ref t.a_is_bar, V.ref t.a_numbers, V.ref t.a_round_of]) := upd_same
        generalize upd H l (.lst [V.ref t.a_beside, V.ref t.a_is_bar, V.ref t.a_numbers, V.ref t.a_round_of]) = H0 at s0 el
        walk_at "rd"
        refine ⟨0, _, _, rfl, rfl, ?_⟩
        walk_at "rd"
        refine .inr ⟨_, _, _, _, rfl, hx.same s0, hy.same s0, .inr ⟨n, ps, rfl, ho, hw, fun H1 s1 => ?_⟩⟩
        have W := which_thing T
        refine ⟨_, rfl, W.x, fun ex σ hex hi => ?_⟩
        walk_at "rd"
        refine rd_var (List.getElem?_set_self hi) ?_
        walk_at "rd"
        exact ⟨ex, _, _, rfl, upd_same, W, fun v H2 s2 iv => q v H2 (((s0.trans s1).trans (Same.upd hex)).trans s2) iv⟩
      · walk_at "rd"
        refine ifF rfl ?_
        walk_at "rd"
        refine ifF rfl ?_
        walk_at "rd"
        refine ifT rfl ?_
        walk_at "rd"
        refine rd_callS ?_
        walk_at "rd"
        refine ⟨by show 3 ≤ sizeLine; decide, fun l hl => ?_⟩
        have s0 := Same.upd (o := .lst [V.ref t.a_fits, V.ref t.a_is_round, V.ref t.a_parted]) hl
        have el : upd H l (.lst [V.ref t.a_fits, V.ref t.a_is_round, V.ref t.a_parted]) l = some (.lst [V.ref t.a_fits, V.ref t.a_is_round, V.ref t.a_parted]) := upd_same
        generalize upd H l (.lst [V.ref t.a_fits, V.ref t.a_is_round, V.ref t.a_parted]) = H0 at s0 el
        walk_at "rd"
        refine ⟨2, _, _, rfl, rfl, ?_⟩
        walk_at "rd"
        refine .inr ⟨_, _, _, _, _, _, rfl, hx.same s0, hy.same s0, hz.same s0, .inr ⟨n, ps, rfl, ho, .inl hw, fun H1 s1 => ?_⟩⟩
        have W := which_thing T
        refine ⟨_, rfl, W.x, fun ex σ hex hi => ?_⟩
        walk_at "rd"
        refine rd_var (List.getElem?_set_self hi) ?_
        walk_at "rd"
        exact ⟨ex, _, _, rfl, upd_same, W, fun v H2 s2 iv => q v H2 (((s0.trans s1).trans (Same.upd hex)).trans s2) iv⟩
    | @th2 x y z n ps e g hx ho hy hz h1 hw q =>
      walk_at "rd"
      refine ifF rfl ?_
      walk_at "rd"
      refine ifF rfl ?_
      walk_at "rd"
      refine ifT rfl ?_
      walk_at "rd"
      refine rd_callS ?_
      walk_at "rd"
      refine ⟨by show 3 ≤ sizeLine; decide, fun l hl => ?_⟩
      have s0 := Same.upd (o := .lst [V.ref t.a_fits, V.ref t.a_is_round, V.ref t.a_parted]) hl
      have el : upd H l (.lst [V.ref t.a_fits, V.ref t.a_is_round, V.ref t.a_parted]) l = some (.lst [V.ref t.a_fits, V.ref t.a_is_round, V.ref t.a_parted]) := upd_same
      generalize upd H l (.lst [V.ref t.a_fits, V.ref t.a_is_round, V.ref t.a_parted]) = H0 at s0 el
      walk_at "rd"
      refine ⟨2, _, _, rfl, rfl, ?_⟩
      walk_at "rd"
      refine .inr ⟨_, _, _, _, _, _, rfl, hx.same s0, hy.same s0, hz.same s0, .inr ⟨n, ps, rfl, ho, .inr ⟨h1, hw⟩, fun H1 s1 => ?_⟩⟩
      have W := which_thing T
      refine ⟨_, rfl, W.x, fun ex σ hex hi => ?_⟩
      walk_at "rd"
      refine rd_var (List.getElem?_set_self hi) ?_
      walk_at "rd"
      exact ⟨ex, _, _, rfl, upd_same, W, fun v H2 s2 iv => q v H2 (((s0.trans s1).trans (Same.upd hex)).trans s2) iv⟩
    | @st k x y z n ps e g k0 k1 hx ho hy hz fw hw q =>
      obtain rfl | rfl | rfl | rfl : k = 7 ∨ k = 8 ∨ k = 9 ∨ k = 10 := by omega
      · walk_at "rd"
        refine ifF rfl ?_
        walk_at "rd"
        refine ifT rfl ?_
        walk_at "rd"
        refine rd_callS ?_
        walk_at "rd"
        refine ⟨by show 4 ≤ sizeLine; decide, fun l hl => ?_⟩
        have s0 := Same.upd (o := .lst [V.ref t.a_beside, V.ref t.a_is_bar, V.ref t.a_numbers, V.ref t.a_round_of]) hl
        have el : upd H l (.lst [V.ref t.a_beside, V.ref t.a_is_bar, V.ref t.a_numbers, V.ref t.a_round_of]) l = some (.lst [V.ref t.a_beside, V.ref t.a_is_bar, V.ref t.a_numbers, V.ref t.a_round_of]) := upd_same
        generalize upd H l (.lst [V.ref t.a_beside, V.ref t.a_is_bar, V.ref t.a_numbers, V.ref t.a_round_of]) = H0 at s0 el
        walk_at "rd"
        refine ⟨2, _, _, rfl, rfl, ?_⟩
        walk_at "rd"
        refine ⟨_, _, _, _, rfl, hx.same s0, hy.same s0, .inr ⟨n, ps, rfl, ho, hw, fun H1 s1 => ?_⟩⟩
        have W := which_step T
        refine ⟨_, rfl, W.x, fun ex σ hex hi => ?_⟩
        walk_at "rd"
        refine rd_var (List.getElem?_set_self hi) ?_
        walk_at "rd"
        exact ⟨ex, _, _, rfl, upd_same, W, fun v H2 s2 iv => q v H2 (((s0.trans s1).trans (Same.upd hex)).trans s2) iv⟩
      · walk_at "rd"
        refine ifF rfl ?_
        walk_at "rd"
        refine ifT rfl ?_
        walk_at "rd"
        refine rd_callS ?_
        walk_at "rd"
        refine ⟨by show 4 ≤ sizeLine; decide, fun l hl => ?_⟩
        have s0 := Same.upd (o := .lst [V.ref t.a_beside, V.ref t.a_is_bar, V.ref t.a_numbers, V.ref t.a_round_of]) hl
        have el : upd H l (.lst [V.ref t.a_beside, V.ref t.a_is_bar, V.ref t.a_numbers, V.ref t.a_round_of]) l = some (.lst [V.ref t.a_beside, V.ref t.a_is_bar, V.ref t.a_numbers, V.ref t.a_round_of]) := upd_same
        generalize upd H l (.lst [V.ref t.a_beside, V.ref t.a_is_bar, V.ref t.a_numbers, V.ref t.a_round_of]) = H0 at s0 el
        walk_at "rd"
        refine ⟨3, _, _, rfl, rfl, ?_⟩
        walk_at "rd"
        refine ⟨_, _, _, _, rfl, hx.same s0, hy.same s0, .inr ⟨n, ps, rfl, ho, hw, fun H1 s1 => ?_⟩⟩
        have W := which_step T
        refine ⟨_, rfl, W.x, fun ex σ hex hi => ?_⟩
        walk_at "rd"
        refine rd_var (List.getElem?_set_self hi) ?_
        walk_at "rd"
        exact ⟨ex, _, _, rfl, upd_same, W, fun v H2 s2 iv => q v H2 (((s0.trans s1).trans (Same.upd hex)).trans s2) iv⟩
      · walk_at "rd"
        refine ifF rfl ?_
        walk_at "rd"
        refine ifF rfl ?_
        walk_at "rd"
        refine ifT rfl ?_
        walk_at "rd"
        refine rd_callS ?_
        walk_at "rd"
        refine ⟨by show 3 ≤ sizeLine; decide, fun l hl => ?_⟩
        have s0 := Same.upd (o := .lst [V.ref t.a_fits, V.ref t.a_is_round, V.ref t.a_parted]) hl
        have el : upd H l (.lst [V.ref t.a_fits, V.ref t.a_is_round, V.ref t.a_parted]) l = some (.lst [V.ref t.a_fits, V.ref t.a_is_round, V.ref t.a_parted]) := upd_same
        generalize upd H l (.lst [V.ref t.a_fits, V.ref t.a_is_round, V.ref t.a_parted]) = H0 at s0 el
        walk_at "rd"
        refine ⟨0, _, _, rfl, rfl, ?_⟩
        walk_at "rd"
        refine .inr ⟨_, _, _, _, _, _, rfl, hx.same s0, hy.same s0, hz.same s0, fw, .inr ⟨n, ps, rfl, ho, .inl ⟨hw, fun H1 s1 => ?_⟩⟩⟩
        have W := which_step T
        refine ⟨_, rfl, W.x, fun ex σ hex hi => ?_⟩
        walk_at "rd"
        refine rd_var (List.getElem?_set_self hi) ?_
        walk_at "rd"
        exact ⟨ex, _, _, rfl, upd_same, W, fun v H2 s2 iv => q v H2 (((s0.trans s1).trans (Same.upd hex)).trans s2) iv⟩
      · walk_at "rd"
        refine ifF rfl ?_
        walk_at "rd"
        refine ifF rfl ?_
        walk_at "rd"
        refine ifT rfl ?_
        walk_at "rd"
        refine rd_callS ?_
        walk_at "rd"
        refine ⟨by show 3 ≤ sizeLine; decide, fun l hl => ?_⟩
        have s0 := Same.upd (o := .lst [V.ref t.a_fits, V.ref t.a_is_round, V.ref t.a_parted]) hl
        have el : upd H l (.lst [V.ref t.a_fits, V.ref t.a_is_round, V.ref t.a_parted]) l = some (.lst [V.ref t.a_fits, V.ref t.a_is_round, V.ref t.a_parted]) := upd_same
        generalize upd H l (.lst [V.ref t.a_fits, V.ref t.a_is_round, V.ref t.a_parted]) = H0 at s0 el
        walk_at "rd"
        refine ⟨1, _, _, rfl, rfl, ?_⟩
        walk_at "rd"
        refine ⟨_, _, _, _, _, rfl, hx.same s0, hy.same s0, .inr ⟨n, ps, rfl, ho, hw, fun H1 s1 => ?_⟩⟩
        have W := which_step T
        refine ⟨_, rfl, W.x, fun ex σ hex hi => ?_⟩
        walk_at "rd"
        refine rd_var (List.getElem?_set_self hi) ?_
        walk_at "rd"
        exact ⟨ex, _, _, rfl, upd_same, W, fun v H2 s2 iv => q v H2 (((s0.trans s1).trans (Same.upd hex)).trans s2) iv⟩
    | st12 hx hy fw hw q =>
      walk_at "rd"
      refine ifF rfl ?_
      walk_at "rd"
      refine ifF rfl ?_
      walk_at "rd"
      refine ifF rfl ?_
      have s0 := Same.refl H
      walk_at "rd"
      refine .inr ⟨_, _, _, _, rfl, hx, hy, fw, .inl ⟨hw, fun H1 s1 => ?_⟩⟩
      have W := which_step T
      refine ⟨_, rfl, W.x, fun ex σ hex hi => ?_⟩
      walk_at "rd"
      refine rd_var (List.getElem?_set_self hi) ?_
      walk_at "rd"
      exact ⟨ex, _, _, rfl, upd_same, W, fun v H2 s2 iv => q v H2 (((s0.trans s1).trans (Same.upd hex)).trans s2) iv⟩
    | nu12 hx hy fw h1 hw q =>
      walk_at "rd"
      refine ifF rfl ?_
      walk_at "rd"
      refine ifF rfl ?_
      walk_at "rd"
      refine ifF rfl ?_
      have s0 := Same.refl H
      walk_at "rd"
      refine .inr ⟨_, _, _, _, rfl, hx, hy, fw, .inr ⟨h1, hw, fun H1 s1 => ?_⟩⟩
      have W := which_numbers T
      refine ⟨_, rfl, W.x, fun ex σ hex hi => ?_⟩
      walk_at "rd"
      refine rd_var (List.getElem?_set_self hi) ?_
      walk_at "rd"
      exact ⟨ex, _, _, rfl, upd_same, W, fun v H2 s2 iv => q v H2 (((s0.trans s1).trans (Same.upd hex)).trans s2) iv⟩
    | @nu9 x y z n ps e g hx ho hy hz fw h1 hw q =>
      walk_at "rd"
      refine ifF rfl ?_
      walk_at "rd"
      refine ifF rfl ?_
      walk_at "rd"
      refine ifT rfl ?_
      walk_at "rd"
      refine rd_callS ?_
      walk_at "rd"
      refine ⟨by show 3 ≤ sizeLine; decide, fun l hl => ?_⟩
      have s0 := Same.upd (o := .lst [V.ref t.a_fits, V.ref t.a_is_round, V.ref t.a_parted]) hl
      have el : upd H l (.lst [V.ref t.a_fits, V.ref t.a_is_round, V.ref t.a_parted]) l = some (.lst [V.ref t.a_fits, V.ref t.a_is_round, V.ref t.a_parted]) := upd_same
      generalize upd H l (.lst [V.ref t.a_fits, V.ref t.a_is_round, V.ref t.a_parted]) = H0 at s0 el
      walk_at "rd"
      refine ⟨0, _, _, rfl, rfl, ?_⟩
      walk_at "rd"
      refine .inr ⟨_, _, _, _, _, _, rfl, hx.same s0, hy.same s0, hz.same s0, fw, .inr ⟨n, ps, rfl, ho, .inr ⟨h1, hw, fun H1 s1 => ?_⟩⟩⟩
      have W := which_numbers T
      refine ⟨_, rfl, W.x, fun ex σ hex hi => ?_⟩
      walk_at "rd"
      refine rd_var (List.getElem?_set_self hi) ?_
      walk_at "rd"
      exact ⟨ex, _, _, rfl, upd_same, W, fun v H2 s2 iv => q v H2 (((s0.trans s1).trans (Same.upd hex)).trans s2) iv⟩
    | @bes x z n ps a hx ho a0 a1 q =>
      walk_at "rd"
      refine ifF rfl ?_
      walk_at "rd"
      refine ifT rfl ?_
      walk_at "rd"
      refine rd_callS ?_
      walk_at "rd"
      refine ⟨by show 4 ≤ sizeLine; decide, fun l hl => ?_⟩
      have s0 := Same.upd (o := .lst [V.ref t.a_beside, V.ref t.a_is_bar, V.ref t.a_numbers, V.ref t.a_round_of]) hl
      have el : upd H l (.lst [V.ref t.a_beside, V.ref t.a_is_bar, V.ref t.a_numbers, V.ref t.a_round_of]) l = some (.lst [V.ref t.a_beside, V.ref t.a_is_bar, V.ref t.a_numbers, V.ref t.a_round_of]) := upd_same
      generalize upd H l (.lst [V.ref t.a_beside, V.ref t.a_is_bar, V.ref t.a_numbers, V.ref t.a_round_of]) = H0 at s0 el
      walk_at "rd"
      refine ⟨0, _, _, rfl, rfl, ?_⟩
      walk_at "rd"
      exact .inl ⟨_, n, ps, a, rfl, hx.same s0, ho, a0, a1, fun l2 H1 s1 e => q l2 H1 (s0.trans s1) e⟩
    | @par x n ps a b hx ho a0 a1 b0 b1 q =>
      walk_at "rd"
      refine ifF rfl ?_
      walk_at "rd"
      refine ifF rfl ?_
      walk_at "rd"
      refine ifT rfl ?_
      walk_at "rd"
      refine rd_callS ?_
      walk_at "rd"
      refine ⟨by show 3 ≤ sizeLine; decide, fun l hl => ?_⟩
      have s0 := Same.upd (o := .lst [V.ref t.a_fits, V.ref t.a_is_round, V.ref t.a_parted]) hl
      have el : upd H l (.lst [V.ref t.a_fits, V.ref t.a_is_round, V.ref t.a_parted]) l = some (.lst [V.ref t.a_fits, V.ref t.a_is_round, V.ref t.a_parted]) := upd_same
      generalize upd H l (.lst [V.ref t.a_fits, V.ref t.a_is_round, V.ref t.a_parted]) = H0 at s0 el
      walk_at "rd"
      refine ⟨2, _, _, rfl, rfl, ?_⟩
      walk_at "rd"
      exact .inl ⟨_, n, ps, a, b, rfl, hx.same s0, ho, a0, a1, b0, b1, fun H1 s1 => q H1 (s0.trans s1)⟩
    | @tld z st a vals st1 st9 ea l1 l8 hv q =>
      walk_at "rd"
      refine ifF rfl ?_
      walk_at "rd"
      refine ifF rfl ?_
      walk_at "rd"
      refine ifF rfl ?_
      have s0 := Same.refl H
      walk_at "rd"
      exact .inl ⟨st, a, vals, rfl, st1, st9, ea, l1, l8, hv, fun x H1 s1 ix => q x H1 s1 ix⟩
    | @fit x n ps st a vals hx ho st1 st9 ea lv hv q =>
      walk_at "rd"
      refine ifF rfl ?_
      walk_at "rd"
      refine ifF rfl ?_
      walk_at "rd"
      refine ifT rfl ?_
      walk_at "rd"
      refine rd_callS ?_
      walk_at "rd"
      refine ⟨by show 3 ≤ sizeLine; decide, fun l hl => ?_⟩
      have s0 := Same.upd (o := .lst [V.ref t.a_fits, V.ref t.a_is_round, V.ref t.a_parted]) hl
      have el : upd H l (.lst [V.ref t.a_fits, V.ref t.a_is_round, V.ref t.a_parted]) l = some (.lst [V.ref t.a_fits, V.ref t.a_is_round, V.ref t.a_parted]) := upd_same
      generalize upd H l (.lst [V.ref t.a_fits, V.ref t.a_is_round, V.ref t.a_parted]) = H0 at s0 el
      walk_at "rd"
      refine ⟨0, _, _, rfl, rfl, ?_⟩
      walk_at "rd"
      exact .inl ⟨_, a, n, ps, st, vals, rfl, hx.same s0, ho, st1, st9, s0 _ _ ea, lv, hv, fun H1 s1 => q H1 (s0.trans s1)⟩
end
end My


set_option Elab.async false
set_option linter.all false
set_option maxRecDepth 100000
set_option maxHeartbeats 4000000
namespace My
open PySem L2
section
variable {P : Program} {w : World} {K : PySem.W.Frag} {mg : Str → Option Value} {base : Heap} {t : Ad}
set_option genSizeOf false in
set_option genInjectivity false in
inductive sp_cell (K : PySem.W.Frag) (vs : List V) (H : Hp) (Q : VK) (zz3 : XK) : Prop where
  | mk (a ns k : _) (zh0 : vs = [.ref a, .int k]) (zh1 : Scr K H a ns) (zh2 : 0 ≤ k) (zh3 : ∀ c H', Same H H' → Q (.int c) H') : sp_cell K vs H Q zz3
theorem int_at {ns : List Int} {k : Int} (h0 : 0 ≤ k) (h1 : k < ns.length) : atI (ns.map V.int) k = some (.int (ns.getD k.toNat 0)) := by
  refine atI_of (i := k.toNat) (by omega) ?_
  rw [List.getElem?_map]
  have : k.toNat < ns.length := by omega
  simp [this]
theorem ok__law_cell_at (T : Txt K mg t) : FnOk P w K mg base CX0 1 t.a__law_cell_at t.d__law_cell_at ["_law_script", "_law_k"] (sp_cell K) := by
  refine T.F__law_cell_at.ok sc__law_cell_at (fun vs H Q E h => ?_) (fun cdv A outer s H vs Q E hr h => ?_)
  · obtain ⟨a, ns, k, rfl, _⟩ := h
    rfl
  · obtain ⟨a, ns, k, rfl, hs, hk, q⟩ := h
    refine ⟨_, (pss_cons (ps_if (pt_cmpR (op_lt) (pv 1) (pe_callB (k_len K) (by rfl) T.n_len bt_len (pa_cons (pv 0) pa_nil)) (nomark _)) (pss_one (ps_ret (pe_ix (k_ix K) (pv 0) (pv 1) (fun _ _ => rfl)))) pss_nil)
      (pss_cons (ps_if (pt_cmpR (k_eqNil K hr.units0) (pv 0) (pe_lst pa_nil) (nomark _)) (pss_one (ps_ret pe_int)) pss_nil)
      (pss_one (ps_ret (pe_op op_add (pe_op op_mul (pe_ix (k_ix K) (pv 0) (pe_op op_mod (pv 1) (pe_callB (k_len K) (by rfl) T.n_len bt_len (pa_cons (pv 0) pa_nil))) (fun _ _ => rfl)) pe_int) (pv 1)))))), ?_⟩
    walk_at "rd"
    refine rd_lenS hs.sq ?_
    walk_at "rd"
    refine ifB (fun h1 => ?_) (fun h1 => ?_)
    · have h1' := of_decide_eq_true h1
      rw [List.length_map] at h1'
      walk_at "rd"
      refine rd_ixS hs.sq (int_at hk h1') ?_
      exact q _ H (Same.refl H)
    · walk_at "rd"
      refine ⟨Nat.zero_le _, fun p hp => ?_⟩
      have s1 := Same.upd (o := .lst []) hp
      walk_at "rd"
      refine ⟨a, p, ns, rfl, rfl, (hs.same s1).sq, SqL.of upd_same, ?_⟩
      walk_at "rd"
      refine ifB (fun h2 => ?_) (fun h2 => ?_)
      · walk_at "rd"
        exact q _ _ s1
      · have h2' := of_decide_eq_false h2
        have hl : 0 < ns.length := List.length_pos_iff.mpr h2'
        walk_at "rd"
        refine rd_lenS (hs.same s1).sq ?_
        rw [List.length_map]
        refine rd_I (by omega) ?_
        refine rd_ixS (hs.same s1).sq (int_at (Int.emod_nonneg _ (by omega)) (Int.emod_lt_of_pos _ (by omega))) ?_
        walk_at "rd"
        refine rd_I (.inr ⟨by decide, by decide⟩) ?_
        walk_at "rd"
        exact q _ _ s1
set_option genSizeOf false in
set_option genInjectivity false in
inductive sp_mixed (K : PySem.W.Frag) (vs : List V) (H : Hp) (Q : VK) (zz3 : XK) : Prop where
  | mk (a ns k m : _) (zh0 : vs = [.ref a, .int k, .int m]) (zh1 : Scr K H a ns) (zh2 : 0 ≤ k) (zh3 : 0 < m) (zh4 : ∀ r H', Same H H' → 0 ≤ r → r < m → Q (.int r) H') : sp_mixed K vs H Q zz3
theorem ok__law_mixed (T : Txt K mg t) : FnOk P w K mg base CX0 2 t.a__law_mixed t.d__law_mixed ["_law_script", "_law_k", "_law_many"] (sp_mixed K) := by
  refine T.F__law_mixed.ok sc__law_mixed (fun vs H Q E h => ?_) (fun cdv A outer s H vs Q E hr h => ?_)
  · obtain ⟨a, ns, k, m, rfl, _⟩ := h
    rfl
  · obtain ⟨a, ns, k, m, rfl, hs, hk, hm, q⟩ := h
    refine ⟨_, (pss_cons (ps_set (i := 3) sc__law_mixed.nd rfl (Or.inl rfl) (pe_op op_mod (pe_op op_mul (pe_op op_add (pe_op op_add (pe_call (ok__law_cell_at T) (hr.mono (by decide)) rfl T.m__law_cell_at T.F__law_cell_at.kp T.b__law_cell_at .nil pass0 (pa_cons (pv 0) (pa_cons (pv 1) pa_nil))) (pe_op op_mul pe_int (pv 1))) pe_int) pe_int) pe_int))
      (pss_one (ps_ret (pe_op op_mod (pe_op op_mod (pe_op op_add (pe_op op_add (pe_op op_mul (pv 3) (pv 3)) (pe_op op_mul pe_int (pv 3))) (pv 1)) pe_int) (pv 2))))), ?_⟩
    walk_at "rd"
    refine ⟨a, ns, k, rfl, hs, hk, fun c H1 s1 => ?_⟩
    walk_at "rd"
    refine rd_I (.inl ⟨by decide, by decide⟩) ?_
    walk_at "rd"
    refine rd_I (.inr ⟨by decide, by decide⟩) ?_
    walk_at "rd"
    refine rd_I (by decide) ?_
    walk_at "rd"
    have d0 := Int.emod_nonneg ((c + 7919 * k + 1) * 48271) (show (2147483647 : Int) ≠ 0 by decide)
    have d1 := Int.emod_lt_of_pos ((c + 7919 * k + 1) * 48271) (show (0 : Int) < 2147483647 by decide)
    generalize ((c + 7919 * k + 1) * 48271) % 2147483647 = dr at d0 d1
    refine rd_I (.inl ⟨by omega, by omega⟩) ?_
    walk_at "rd"
    refine rd_I (.inl ⟨by decide, by decide⟩) ?_
    walk_at "rd"
    refine rd_I (by decide) ?_
    walk_at "rd"
    refine rd_I hm ?_
    exact q _ H1 s1 (Int.emod_nonneg _ (by omega)) (Int.emod_lt_of_pos _ hm)
set_option genSizeOf false in
set_option genInjectivity false in
inductive sp_draw (K : PySem.W.Frag) (vs : List V) (H : Hp) (Q : VK) (zz3 : XK) : Prop where
  | mk (a ns tw ts m : _) (zh0 : vs = [.ref a, .ref tw, .int m]) (zh1 : Scr K H a ns) (zh2 : H tw = some (.lst ts)) (zh3 : ts.length ≤ 500) (zh4 : 0 < m) (zh5 : ∀ r H' ts', SameT tw H H' → H' tw = some (.lst ts') → ts'.length = ts.length + 1 → 0 ≤ r → r < m → Q (.int r) H') : sp_draw K vs H Q zz3
theorem ok__law_draw (T : Txt K mg t) : FnOk P w K mg base CX0 3 t.a__law_draw t.d__law_draw ["_law_script", "_law_town", "_law_many"] (sp_draw K) := by
  refine T.F__law_draw.ok sc__law_draw (fun vs H Q E h => ?_) (fun cdv A outer s H vs Q E hr h => ?_)
  · obtain ⟨a, ns, tw, ts, m, rfl, _⟩ := h
    rfl
  · obtain ⟨a, ns, tw, ts, m, rfl, hs, ht, hl, hm, q⟩ := h
    refine ⟨_, (pss_cons (ps_expr (k_bm K PySem.F.plainAttrs_list PySem.F.slot_list_append PySem.F.type_list_append mt_append (pv 1) (pa_cons pe_int pa_nil)))
      (pss_one (ps_ret (pe_call (ok__law_mixed T) (hr.mono (by decide)) rfl T.m__law_mixed T.F__law_mixed.kp T.b__law_mixed .nil pass0 (pa_cons (pv 0) (pa_cons (pe_callB (k_len K) (by rfl) T.n_len bt_len (pa_cons (pv 1) pa_nil)) (pa_cons (pv 2) pa_nil))))))), ?_⟩
    walk_at "rd"
    refine ⟨tyV_lst ht, ?_⟩
    walk_at "rd"
    refine rd_append ht (small1000 (by omega)) ?_
    have s1 : SameT tw H (upd H tw (.lst (ts ++ [V.int 0]))) := fun b u e g => by rw [upd_ne g]; exact e
    have ht1 : upd H tw (.lst (ts ++ [V.int 0])) tw = some (.lst (ts ++ [V.int 0])) := upd_same
    walk_at "rd"
    refine ⟨a, ns, _, m, rfl, hs.t ht s1, by omega, hm, fun r H2 s2 h0 h1 => ?_⟩
    exact q r H2 _ (s1.trans s2.t) (s2 _ _ ht1) (by simp) h0 h1
set_option genSizeOf false in
set_option genInjectivity false in
inductive sp_pick (K : PySem.W.Frag) (vs : List V) (H : Hp) (Q : VK) (zz3 : XK) : Prop where
  | mk (a ns tw ts l xs : _) (zh0 : vs = [.ref a, .ref tw, .ref l]) (zh1 : Scr K H a ns) (zh2 : H tw = some (.lst ts)) (zh3 : ts.length ≤ 500) (zh4 : H l = some (.lst xs)) (zh5 : l ≠ tw) (zh6 : 0 < xs.length) (zh7 : ∀ v H' ts', SameT tw H H' → H' tw = some (.lst ts') → ts'.length = ts.length + 1 → v ∈ xs → Q v H') : sp_pick K vs H Q zz3
theorem ok__law_pick (T : Txt K mg t) : FnOk P w K mg base CX0 4 t.a__law_pick t.d__law_pick ["_law_script", "_law_town", "_law_some"] (sp_pick K) := by
  refine T.F__law_pick.ok sc__law_pick (fun vs H Q E h => ?_) (fun cdv A outer s H vs Q E hr h => ?_)
  · obtain ⟨a, ns, tw, ts, l, xs, rfl, _⟩ := h
    rfl
  · obtain ⟨a, ns, tw, ts, l, xs, rfl, hs, ht, hl, el, nl, hx, q⟩ := h
    refine ⟨_, (pss_one (ps_ret (pe_ix (k_ix K) (pv 2) (pe_call (ok__law_draw T) (hr.mono (by decide)) rfl T.m__law_draw T.F__law_draw.kp T.b__law_draw .nil pass0 (pa_cons (pv 0) (pa_cons (pv 1) (pa_cons (pe_callB (k_len K) (by rfl) T.n_len bt_len (pa_cons (pv 2) pa_nil)) pa_nil)))) (fun _ _ => rfl)))), ?_⟩
    walk_at "rd"
    refine ⟨a, ns, tw, ts, _, rfl, hs, ht, hl, by omega, fun r H1 ts' s1 ht1 hl1 h0 h1 => ?_⟩
    have hr' : r.toNat < xs.length := by omega
    refine rd_ixL (s1 _ _ el nl) (atI_of (i := r.toNat) (by omega) (List.getElem?_eq_getElem hr')) ?_
    exact q _ H1 ts' s1 ht1 hl1 (List.getElem_mem hr')
end
end My

set_option Elab.async false
set_option linter.all false
set_option maxRecDepth 100000
set_option maxHeartbeats 4000000
namespace My
open PySem L2
theorem rot_ne {n a b : Int} (a0 : 0 ≤ a) (a1 : a < n) (b0 : 0 ≤ b) (b1 : b < n - 1) : 0 ≤ (a + 1 + b) % n ∧ (a + 1 + b) % n < n ∧ a ≠ (a + 1 + b) % n := by
  refine ⟨Int.emod_nonneg _ (by omega), Int.emod_lt_of_pos _ (by omega), ?_⟩
  by_cases h : a + 1 + b < n
  · rw [Int.emod_eq_of_lt (by omega) h]
    omega
  · have e : a + 1 + b = (a + 1 + b - n) + n * 1 := by omega
    rw [e, Int.add_mul_emod_self_left, Int.emod_eq_of_lt (by omega) (by omega)]
    omega
noncomputable def outP (q : Int × Int) (ps : List (Int × Int)) : List (Int × Int) := ps.filter fun p => !decide (p = q)
theorem outP_snoc (q p : Int × Int) (ps : List (Int × Int)) : outP q (ps ++ [p]) = outP q ps ++ (if (!decide (p = q)) = true then [p] else []) := by
  unfold outP
  rw [List.filter_append, filter_one]
theorem outP_len (q : Int × Int) (ps : List (Int × Int)) : (outP q ps).length ≤ ps.length := List.length_filter_le _ _
theorem mem_outP {q p : Int × Int} {ps : List (Int × Int)} : p ∈ outP q ps ↔ p ∈ ps ∧ p ≠ q := by
  unfold outP
  rw [List.mem_filter]
  simp
theorem outP_nd {q : Int × Int} {ps : List (Int × Int)} (h : ps.Nodup) : (outP q ps).Nodup := List.Pairwise.filter _ h
theorem nd_snoc {q : Int × Int} {ps : List (Int × Int)} (h : ps.Nodup) (hq : q ∉ ps) : (ps ++ [q]).Nodup := by
  unfold List.Nodup
  rw [List.pairwise_append]
  refine ⟨h, List.pairwise_singleton _ _, fun a ha b hb z => ?_⟩
  rcases List.mem_singleton.mp hb with rfl
  exact hq (z ▸ ha)
theorem pr_get {H : Hp} {ys : List V} {ps : List (Int × Int)} {i : Nat} {x : V} (h : IsAll H ys (ps.map prD)) (e : ys[i]? = some x) : ∃ p, ps[i]? = some p ∧ Is H x (prD p) := by
  obtain ⟨d, ed, id⟩ := h.get' e
  rw [List.getElem?_map] at ed
  cases hpi : ps[i]? with
  | none => rw [hpi] at ed; cases ed
  | some p => rw [hpi] at ed; cases ed; exact ⟨p, rfl, id⟩
theorem rd_ninL {H : Hp} {Q : VK} {p l : Addr} {zs : List V} {i j : Int} {ps : List (Int × Int)} (e : H p = some (.tup [.int i, .int j])) (el : H l = some (.lst zs)) (iz : IsAll H zs (ps.map prD)) (h : Q (.bl (!has ps i j)) H) : rInD true (.ref p) (.ref l) H Q := by
  refine ⟨prD (i, j), ps.map prD, .tup e (.cons (.int i) (.cons (.int j) .nil)), .inr (.lst (.inl el) iz), ok_pr _, ok_prs _, ?_⟩
  rw [inD_pr]
  exact h
theorem at_ints {vals : List Int} {i : Nat} (hi : i < vals.length) : atI (vals.map V.int) ((0 : Int) + (i : Int)) = some (.int (vals.getD i 0)) := by
  refine atI_of (i := i) (by omega) ?_
  exact getD_map hi
theorem ord_tt {H H' : Hp} {tw : Addr} {ts : List V} (hw : H tw = some (.lst ts)) (s : SameT tw H H') {x : V} {n : Nat} {ps : List (Int × Int)} (h : Is H x (ordD n ps)) : Is H' x (ordD n ps) :=
  h.tmono (fun c us e => s _ _ e (ne_of e hw (by intro z; cases z))) (by unfold ordD; rw [noL, noLs, noLs, noLs, noL, noL, noLs_pr]; rfl)
theorem prs_t {H H' : Hp} {tw : Addr} {ts zs : List V} {prs : List (Int × Int)} (hw : H tw = some (.lst ts)) (s : SameT tw H H') (h : IsAll H zs (prs.map prD)) : IsAll H' zs (prs.map prD) :=
  h.tmono (fun c us e => s _ _ e (ne_of e hw (by intro z; cases z))) (noLs_pr _)
section
variable {P : Program} {w : World} {K : PySem.W.Frag} {mg : Str → Option Value} {base : Heap} {t : Ad}
set_option genSizeOf false in
set_option genInjectivity false in
inductive sp_byL (vs : List V) (H : Hp) (Q : VK) (zz3 : XK) : Prop where
  | mk (p : Addr) (vals : List Int) (st : Int) (zh0 : vs = [.int st, .ref p]) (zh1 : H p = some (.lst (vals.map V.int))) (zh2 : vals.length ≤ 8) (zh3 : ∀ x H', Same H H' → Is H' x (ordD vals.length (toldL st vals)) → Q x H') : sp_byL  vs H Q zz3
theorem okl__law_by (T : Txt K mg t) : FnOk P w K mg base CX0 1 t.a__law_by t.d__law_by ["_law_step", "_law_longs"] sp_byL := by
  refine T.F__law_by.ok sc__law_by (fun vs H Q E h => ?_) (fun cdv A outer s H vs Q E hr h => ?_)
  · obtain ⟨p, vals, st, rfl, _⟩ := h
    rfl
  · obtain ⟨p, vals, st, rfl, ep, l8, q⟩ := h
    refine ⟨_, (pss_cons (ps_set (i := 2) sc__law_by.nd rfl (Or.inl rfl) (pe_lst pa_nil))
      (pss_cons (ps_for PassesOwn.never rfl (pi_range1 rfl T.n_range (pa_cons (pe_callB (k_len K) (by rfl) T.n_len bt_len (pa_cons (pv 1) pa_nil)) pa_nil)) (pg_name (i := 3) sc__law_by.nd rfl (Or.inl rfl)) (pss_one (ps_for PassesOwn.never rfl (pi_range1 rfl T.n_range (pa_cons (pe_callB (k_len K) (by rfl) T.n_len bt_len (pa_cons (pv 1) pa_nil)) pa_nil)) (pg_name (i := 4) sc__law_by.nd rfl (Or.inl rfl)) (pss_one (ps_if (pt_cmpR (op_ge) (pe_ix (k_ix K) (pv 1) (pv 4) (fun _ _ => rfl)) (pe_op op_add (pe_ix (k_ix K) (pv 1) (pv 3) (fun _ _ => rfl)) (pv 0)) (nomark _)) (pss_one (ps_expr (k_bm K PySem.F.plainAttrs_list PySem.F.slot_list_append PySem.F.type_list_append mt_append (pv 2) (pa_cons (pe_tup (pa_cons (pv 3) (pa_cons (pv 4) pa_nil))) pa_nil)))) pss_nil)))))
      (pss_one (ps_ret (pe_tup (pa_cons (pe_callB (k_len K) (by rfl) T.n_len bt_len (pa_cons (pv 1) pa_nil)) (pa_cons (pe_callTy (k_tuple K) (by rfl) T.n_tuple bt_tuple (pa_cons (pv 2) pa_nil)) pa_nil))))))), ?_⟩
    have ln : (vals.map V.int).length = vals.length := List.length_map _
    walk_at "rd"
    refine ⟨Nat.zero_le _, fun r hr' => ?_⟩
    have s0 := Same.upd (o := .lst []) hr'
    have ep0 := s0 _ _ ep
    walk_at "rd"
    refine ⟨_, rfl, by omega, by omega, ?_⟩
    rw [ln, Int.toNat_natCast]
    refine fp_range (fun i σ H' => (∃ v3 v4, σ = [some (.int st), some (.ref p), some (.ref r), v3, v4]) ∧ Same H H' ∧ ∃ zs, H' r = some (.lst zs) ∧ IsAll H' zs ((tlAll st vals i).map prD)) ⟨⟨_, _, rfl⟩, s0, [], upd_same, .nil⟩ ?_ ?_
    · rintro i σ H1 hi ⟨⟨v3, v4, rfl⟩, s1, zs, hz, iz⟩
      have ep1 := s1 _ _ ep
      walk_at "rd"
      refine ⟨_, rfl, by omega, by omega, ?_⟩
      rw [ln, Int.toNat_natCast]
      refine fp_range (fun j σ H' => (∃ v4, σ = [some (.int st), some (.ref p), some (.ref r), some (.int (0 + i)), v4]) ∧ Same H H' ∧ ∃ zs, H' r = some (.lst zs) ∧ IsAll H' zs ((tlAll st vals i ++ tlRow st vals i j).map prD)) ⟨⟨_, rfl⟩, s1, zs, hz, by simpa [tlRow] using iz⟩ ?_ ?_
      · rintro j σ H2 hj ⟨⟨v4, rfl⟩, s2, zs2, hz2, iz2⟩
        have ep2 := s2 _ _ ep
        rw [tlRow_succ, ← List.append_assoc, List.map_append]
        walk_at "rd"
        refine rd_ixL ep2 (at_ints hj) ?_
        walk_at "rd"
        refine rd_ixL ep2 (at_ints hi) ?_
        walk_at "rd"
        refine ifB (fun g => ?_) (fun g => ?_)
        · have g' := of_decide_eq_true g
          have e1 : tlI st vals i j = [((i : Int), (j : Int))] := by unfold tlI; rw [if_pos (by omega)]
          rw [e1]
          have lz : zs2.length ≤ 200 := by
            rw [iz2.length, List.length_map, List.length_append]
            have h1 := tlAll_len st vals i
            have h2 := tlRow_len st vals i j
            have h3 : i * vals.length ≤ 8 * 8 := Nat.mul_le_mul (by omega) l8
            omega
          walk_at "rd"
          refine ⟨tyV_lst hz2, ?_⟩
          walk_at "rd"
          refine ⟨by show 2 ≤ sizeLine; decide, fun o ho => ?_⟩
          have hro : r ≠ o := ne_of_none hz2 ho
          walk_at "rd"
          refine rd_append (xs := zs2) (by rw [upd_ne hro]; exact hz2) (small1000 (by omega)) ?_
          walk_at "rd"
          refine ⟨⟨_, rfl⟩, fun c u e => ?_, _, upd_same, ?_⟩
          · have e3 := s2 c u e
            rw [upd_ne (ne_of_none e hr'), upd_ne (ne_of_none e3 ho)]
            exact e3
          · rw [Int.zero_add, Int.zero_add]
            refine grow (noLs_pr _) hz2 ho iz2 (.tup ?_ (.cons (.int _) (.cons (.int _) .nil)))
            rw [upd_ne (Ne.symm hro), upd_same]
        · have g' := of_decide_eq_false g
          have e1 : tlI st vals i j = [] := by unfold tlI; rw [if_neg (by omega)]
          rw [e1]
          walk_at "rd"
          exact ⟨⟨_, rfl⟩, s2, zs2, hz2, by simpa using iz2⟩
      · rintro σ H2 ⟨⟨v4, rfl⟩, s2, zs2, hz2, iz2⟩
        exact ⟨⟨_, _, rfl⟩, s2, zs2, hz2, by rw [tlAll_succ]; exact iz2⟩
    · rintro σ H1 ⟨⟨v3, v4, rfl⟩, s1, zs, hz, iz⟩
      have ep1 := s1 _ _ ep
      walk_at "rd"
      rw [ln]
      intro tp htp
      have f1 := Same.upd (o := .tup zs) htp
      walk_at "rd"
      refine ⟨by show 2 ≤ sizeLine; decide, fun o ho => ?_⟩
      have f2 := Same.upd (o := .tup [V.int (vals.length : Nat), V.ref tp]) ho
      have nto : tp ≠ o := ne_of_none upd_same ho
      refine q _ _ ((s1.trans f1).trans f2) ?_
      exact .tup upd_same (.cons (.int _) (.cons (.tup (by rw [upd_ne nto, upd_same]) ((iz.same f1).same f2)) .nil))
set_option genSizeOf false in
set_option genInjectivity false in
inductive sp_byT (vs : List V) (H : Hp) (Q : VK) (zz3 : XK) : Prop where
  | mk (p : Addr) (vals : List Int) (st : Int) (zh0 : vs = [.int st, .ref p]) (zh1 : H p = some (.tup (vals.map V.int))) (zh2 : vals.length ≤ 8) (zh3 : ∀ x H', Same H H' → Is H' x (ordD vals.length (toldL st vals)) → Q x H') : sp_byT  vs H Q zz3
theorem okt__law_by (T : Txt K mg t) : FnOk P w K mg base CX0 1 t.a__law_by t.d__law_by ["_law_step", "_law_longs"] sp_byT := by
  refine T.F__law_by.ok sc__law_by (fun vs H Q E h => ?_) (fun cdv A outer s H vs Q E hr h => ?_)
  · obtain ⟨p, vals, st, rfl, _⟩ := h
    rfl
  · obtain ⟨p, vals, st, rfl, ep, l8, q⟩ := h
    refine ⟨_, (pss_cons (ps_set (i := 2) sc__law_by.nd rfl (Or.inl rfl) (pe_lst pa_nil))
      (pss_cons (ps_for PassesOwn.never rfl (pi_range1 rfl T.n_range (pa_cons (pe_callB (k_len K) (by rfl) T.n_len bt_len (pa_cons (pv 1) pa_nil)) pa_nil)) (pg_name (i := 3) sc__law_by.nd rfl (Or.inl rfl)) (pss_one (ps_for PassesOwn.never rfl (pi_range1 rfl T.n_range (pa_cons (pe_callB (k_len K) (by rfl) T.n_len bt_len (pa_cons (pv 1) pa_nil)) pa_nil)) (pg_name (i := 4) sc__law_by.nd rfl (Or.inl rfl)) (pss_one (ps_if (pt_cmpR (op_ge) (pe_ix (k_ix K) (pv 1) (pv 4) (fun _ _ => rfl)) (pe_op op_add (pe_ix (k_ix K) (pv 1) (pv 3) (fun _ _ => rfl)) (pv 0)) (nomark _)) (pss_one (ps_expr (k_bm K PySem.F.plainAttrs_list PySem.F.slot_list_append PySem.F.type_list_append mt_append (pv 2) (pa_cons (pe_tup (pa_cons (pv 3) (pa_cons (pv 4) pa_nil))) pa_nil)))) pss_nil)))))
      (pss_one (ps_ret (pe_tup (pa_cons (pe_callB (k_len K) (by rfl) T.n_len bt_len (pa_cons (pv 1) pa_nil)) (pa_cons (pe_callTy (k_tuple K) (by rfl) T.n_tuple bt_tuple (pa_cons (pv 2) pa_nil)) pa_nil))))))), ?_⟩
    have ln : (vals.map V.int).length = vals.length := List.length_map _
    walk_at "rd"
    refine ⟨Nat.zero_le _, fun r hr' => ?_⟩
    have s0 := Same.upd (o := .lst []) hr'
    have ep0 := s0 _ _ ep
    walk_at "rd"
    refine ⟨_, rfl, by omega, by omega, ?_⟩
    rw [ln, Int.toNat_natCast]
    refine fp_range (fun i σ H' => (∃ v3 v4, σ = [some (.int st), some (.ref p), some (.ref r), v3, v4]) ∧ Same H H' ∧ ∃ zs, H' r = some (.lst zs) ∧ IsAll H' zs ((tlAll st vals i).map prD)) ⟨⟨_, _, rfl⟩, s0, [], upd_same, .nil⟩ ?_ ?_
    · rintro i σ H1 hi ⟨⟨v3, v4, rfl⟩, s1, zs, hz, iz⟩
      have ep1 := s1 _ _ ep
      walk_at "rd"
      refine ⟨_, rfl, by omega, by omega, ?_⟩
      rw [ln, Int.toNat_natCast]
      refine fp_range (fun j σ H' => (∃ v4, σ = [some (.int st), some (.ref p), some (.ref r), some (.int (0 + i)), v4]) ∧ Same H H' ∧ ∃ zs, H' r = some (.lst zs) ∧ IsAll H' zs ((tlAll st vals i ++ tlRow st vals i j).map prD)) ⟨⟨_, rfl⟩, s1, zs, hz, by simpa [tlRow] using iz⟩ ?_ ?_
      · rintro j σ H2 hj ⟨⟨v4, rfl⟩, s2, zs2, hz2, iz2⟩
        have ep2 := s2 _ _ ep
        rw [tlRow_succ, ← List.append_assoc, List.map_append]
        walk_at "rd"
        refine rd_ixT ep2 (at_ints hj) ?_
        walk_at "rd"
        refine rd_ixT ep2 (at_ints hi) ?_
        walk_at "rd"
        refine ifB (fun g => ?_) (fun g => ?_)
        · have g' := of_decide_eq_true g
          have e1 : tlI st vals i j = [((i : Int), (j : Int))] := by unfold tlI; rw [if_pos (by omega)]
          rw [e1]
          have lz : zs2.length ≤ 200 := by
            rw [iz2.length, List.length_map, List.length_append]
            have h1 := tlAll_len st vals i
            have h2 := tlRow_len st vals i j
            have h3 : i * vals.length ≤ 8 * 8 := Nat.mul_le_mul (by omega) l8
            omega
          walk_at "rd"
          refine ⟨tyV_lst hz2, ?_⟩
          walk_at "rd"
          refine ⟨by show 2 ≤ sizeLine; decide, fun o ho => ?_⟩
          have hro : r ≠ o := ne_of_none hz2 ho
          walk_at "rd"
          refine rd_append (xs := zs2) (by rw [upd_ne hro]; exact hz2) (small1000 (by omega)) ?_
          walk_at "rd"
          refine ⟨⟨_, rfl⟩, fun c u e => ?_, _, upd_same, ?_⟩
          · have e3 := s2 c u e
            rw [upd_ne (ne_of_none e hr'), upd_ne (ne_of_none e3 ho)]
            exact e3
          · rw [Int.zero_add, Int.zero_add]
            refine grow (noLs_pr _) hz2 ho iz2 (.tup ?_ (.cons (.int _) (.cons (.int _) .nil)))
            rw [upd_ne (Ne.symm hro), upd_same]
        · have g' := of_decide_eq_false g
          have e1 : tlI st vals i j = [] := by unfold tlI; rw [if_neg (by omega)]
          rw [e1]
          walk_at "rd"
          exact ⟨⟨_, rfl⟩, s2, zs2, hz2, by simpa using iz2⟩
      · rintro σ H2 ⟨⟨v4, rfl⟩, s2, zs2, hz2, iz2⟩
        exact ⟨⟨_, _, rfl⟩, s2, zs2, hz2, by rw [tlAll_succ]; exact iz2⟩
    · rintro σ H1 ⟨⟨v3, v4, rfl⟩, s1, zs, hz, iz⟩
      have ep1 := s1 _ _ ep
      walk_at "rd"
      rw [ln]
      intro tp htp
      have f1 := Same.upd (o := .tup zs) htp
      walk_at "rd"
      refine ⟨by show 2 ≤ sizeLine; decide, fun o ho => ?_⟩
      have f2 := Same.upd (o := .tup [V.int (vals.length : Nat), V.ref tp]) ho
      have nto : tp ≠ o := ne_of_none upd_same ho
      refine q _ _ ((s1.trans f1).trans f2) ?_
      exact .tup upd_same (.cons (.int _) (.cons (.tup (by rw [upd_ne nto, upd_same]) ((iz.same f1).same f2)) .nil))
noncomputable def sp_by : Sp := fun vs H Q E => sp_byL vs H Q E ∨ sp_byT vs H Q E
theorem ok__law_by (T : Txt K mg t) : FnOk P w K mg base CX0 1 t.a__law_by t.d__law_by ["_law_step", "_law_longs"] sp_by := (okl__law_by T).or (okt__law_by T)
set_option genSizeOf false in
set_option genInjectivity false in
inductive sp_order (K : PySem.W.Frag) (vs : List V) (H : Hp) (Q : VK) (zz3 : XK) : Prop where
  | mk (a ns tw ts : _) (zh0 : vs = [.ref a, .ref tw, .int 8]) (zh1 : Scr K H a ns) (zh2 : H tw = some (.lst ts)) (zh3 : ts.length ≤ 100) (zh4 : ∀ x H' n ps ts', SameT tw H H' → H' tw = some (.lst ts') → ts'.length ≤ ts.length + 60 → Ord n ps → Is H' x (ordD n ps) → Q x H') : sp_order K vs H Q zz3
theorem ok__law_order (T : Txt K mg t) : FnOk P w K mg base CX0 5 t.a__law_order t.d__law_order ["_law_script", "_law_town", "_law_most"] (sp_order K) := by
  refine T.F__law_order.ok sc__law_order (fun vs H Q E h => ?_) (fun cdv A outer s H vs Q E hr h => ?_)
  · obtain ⟨a, ns, tw, ts, rfl, _⟩ := h
    rfl
  · obtain ⟨a, ns, tw, ts, rfl, hs, ht, hl, q⟩ := h
    refine ⟨_, (pss_cons (ps_set (i := 3) sc__law_order.nd rfl (Or.inl rfl) (pe_op op_add pe_int (pe_call (ok__law_draw T) (hr.mono (by decide)) rfl T.m__law_draw T.F__law_draw.kp T.b__law_draw .nil pass0 (pa_cons (pv 0) (pa_cons (pv 1) (pa_cons (pv 2) pa_nil))))))
      (pss_cons (ps_set_lc (i := 5) sc__law_order.nd rfl rfl rfl rfl ⟨True.intro, True.intro, True.intro, True.intro, (.inl rfl), (.inl rfl), True.intro⟩ (M := ["_law_k", "_law_script", "_law_town"]) (.own (.free 0 rfl rfl (.free 1 rfl rfl .nil))) (gk_name rfl) rfl (by decide +kernel) (pi_range1 rfl T.n_range (pa_cons (pv 3) pa_nil)) (fun C fp s1 H1 => ⟨pg_name (i := 0) (show (["_law_k", "_law_script", "_law_town"] : List Str).Nodup by decide +kernel) rfl (Or.inl rfl), pif_nil, (pe_call (ok__law_draw T) (hr.mono (by decide)) rfl T.m__law_draw T.F__law_draw.kp T.b__law_draw .nil pass0 (pa_cons (pv 1) (pa_cons (pv 2) (pa_cons (pe_call (ok__law_pick T) (hr.mono (by decide)) rfl T.m__law_pick T.F__law_pick.kp T.b__law_pick .nil pass0 (pa_cons (pv 1) (pa_cons (pv 2) (pa_cons (pe_lst (pa_cons pe_int (pa_cons pe_int (pa_cons pe_int pa_nil)))) pa_nil)))) pa_nil))))⟩))
      (pss_cons (ps_set (i := 6) sc__law_order.nd rfl (Or.inl rfl) (pe_call (ok__law_by T) (hr.mono (by decide)) rfl T.m__law_by T.F__law_by.kp T.b__law_by .nil pass0 (pa_cons (pe_op op_add pe_int (pe_call (ok__law_draw T) (hr.mono (by decide)) rfl T.m__law_draw T.F__law_draw.kp T.b__law_draw .nil pass0 (pa_cons (pv 0) (pa_cons (pv 1) (pa_cons (pe_call (ok__law_pick T) (hr.mono (by decide)) rfl T.m__law_pick T.F__law_pick.kp T.b__law_pick .nil pass0 (pa_cons (pv 0) (pa_cons (pv 1) (pa_cons (pe_lst (pa_cons pe_int (pa_cons pe_int (pa_cons pe_int pa_nil)))) pa_nil)))) pa_nil))))) (pa_cons (pv 5) pa_nil))))
      (pss_cons (ps_if (PW.pt (pw_or (pt_cmpR (op_eqD hr.units) (pv 3) pe_int (nomark _)) (pw_or1 (pt_cmpR (op_eqD hr.units) (pe_call (ok__law_draw T) (hr.mono (by decide)) rfl T.m__law_draw T.F__law_draw.kp T.b__law_draw .nil pass0 (pa_cons (pv 0) (pa_cons (pv 1) (pa_cons pe_int pa_nil)))) pe_int (nomark _))))) (pss_one (ps_ret (pv 6))) pss_nil)
      (pss_cons (ps_set (i := 7) sc__law_order.nd rfl (Or.inl rfl) (pe_callTy (k_list K) (by rfl) T.n_list bt_list (pa_cons (pe_ix (k_ix K) (pv 6) pe_int (fun _ _ => rfl)) pa_nil)))
      (pss_cons (ps_for PassesOwn.never rfl (pi_range1 rfl T.n_range (pa_cons (pe_op op_add pe_int (pe_call (ok__law_draw T) (hr.mono (by decide)) rfl T.m__law_draw T.F__law_draw.kp T.b__law_draw .nil pass0 (pa_cons (pv 0) (pa_cons (pv 1) (pa_cons pe_int pa_nil))))) pa_nil)) (pg_name (i := 4) sc__law_order.nd rfl (Or.inl rfl)) (pss_cons (ps_set (i := 8) sc__law_order.nd rfl (Or.inr rfl) (pe_call (ok__law_draw T) (hr.mono (by decide)) rfl T.m__law_draw T.F__law_draw.kp T.b__law_draw .nil pass0 (pa_cons (pv 0) (pa_cons (pv 1) (pa_cons (pv 3) pa_nil)))))
      (pss_cons (ps_set (i := 9) sc__law_order.nd rfl (Or.inr rfl) (pe_op op_mod (pe_op op_add (pe_op op_add (pv 8) pe_int) (pe_call (ok__law_draw T) (hr.mono (by decide)) rfl T.m__law_draw T.F__law_draw.kp T.b__law_draw .nil pass0 (pa_cons (pv 0) (pa_cons (pv 1) (pa_cons (pe_op op_sub (pv 3) pe_int) pa_nil))))) (pv 3)))
      (pss_one (ps_set (i := 7) sc__law_order.nd rfl (Or.inl rfl) (pe_op op_cat (pe_lc rfl ⟨True.intro, True.intro, (.inl rfl), (.inl rfl), True.intro⟩ (M := ["_law_pair", "_law_one", "_law_other"]) (.own (.free 8 rfl rfl (.free 9 rfl rfl .nil))) (gk_name rfl) rfl (by decide +kernel) (k_plst K (pv 7)) (fun C fp s1 H1 => ⟨pg_name (i := 0) (show (["_law_pair", "_law_one", "_law_other"] : List Str).Nodup by decide +kernel) rfl (Or.inl rfl), pif_one (pt_cmpR (op_neD hr.units) (pv 0) (pe_tup (pa_cons (pv 1) (pa_cons (pv 2) pa_nil))) (nomark _)), (pv 0)⟩)) (pe_op op_rep (pe_lst (pa_cons (pe_tup (pa_cons (pv 8) (pa_cons (pv 9) pa_nil))) pa_nil)) (pe_callTy c_int (by rfl) T.n_int bt_int (pa_cons (pe_cmpR (op_notInD hr.units) (pe_tup (pa_cons (pv 8) (pa_cons (pv 9) pa_nil))) (pv 7) (by rfl)) pa_nil)))))))))
      (pss_one (ps_ret (pe_tup (pa_cons (pv 3) (pa_cons (pe_callTy (k_tuple K) (by rfl) T.n_tuple bt_tuple (pa_cons (pe_callB (k_sorted K) (by rfl) T.n_sorted bt_sorted (pa_cons (pv 7) pa_nil)) pa_nil)) pa_nil))))))))))), ?_⟩
    walk_at "rd"
    refine ⟨a, ns, tw, ts, 8, rfl, hs, ht, by omega, by decide, fun r0 H1 ts1 s1 ht1 hl1 r00 r08 => ?_⟩
    obtain ⟨n, hn⟩ : ∃ n : Nat, 1 + r0 = (n : Int) := ⟨(1 + r0).toNat, by omega⟩
    have hs1 := hs.t ht s1
    walk_at "rd"
    rw [hn]
    refine ⟨_, rfl, by omega, by omega, ?_⟩
    rw [Int.toNat_natCast]
    refine lp_range (small_ln (by omega)) (fun i ys H' => SameT tw H1 H' ∧ (∃ ts', H' tw = some (.lst ts') ∧ ts'.length ≤ ts.length + 1 + 2 * i) ∧ ∃ vals : List Int, ys = vals.map V.int ∧ vals.length = i) ⟨SameT.refl _ _, ⟨ts1, ht1, by omega⟩, [], rfl, rfl⟩ (by
      rintro i ys H' ⟨_, _, vals, rfl, h⟩
      rw [List.length_map]
      omega) ?_ ?_
    · rintro i ys H2 hi ⟨s2, ⟨ts2, ht2, hl2⟩, vals, rfl, lv⟩
      have hs2 := hs1.t ht1 s2
      walk_at "rd"
      refine ⟨by show 3 ≤ sizeLine; decide, fun q1 hq1 => ?_⟩
      have f1 := Same.upd (o := .lst [V.int 6, V.int 10, V.int 20]) hq1
      have n1 : q1 ≠ tw := fun z => by rw [z, ht2] at hq1; cases hq1
      walk_at "rd"
      refine ⟨a, ns, tw, ts2, q1, _, rfl, hs2.same f1, f1 _ _ ht2, by omega, upd_same, n1, by show 0 < 3; decide, fun v H3 ts3 s3 ht3 hl3 hv => ?_⟩
      obtain ⟨m, rfl, m0⟩ : ∃ m : Int, v = .int m ∧ 0 < m := by
        simp only [List.mem_cons, List.not_mem_nil, or_false] at hv
        rcases hv with rfl | rfl | rfl
        · exact ⟨_, rfl, by decide⟩
        · exact ⟨_, rfl, by decide⟩
        · exact ⟨_, rfl, by decide⟩
      have s13 := (s2.trans f1.t).trans s3
      walk_at "rd"
      refine ⟨a, ns, tw, ts3, m, rfl, hs1.t ht1 s13, ht3, by omega, m0, fun r4 H4 ts4 s4 ht4 hl4 _ _ => ?_⟩
      exact ⟨s13.trans s4, ⟨ts4, ht4, by omega⟩, vals ++ [r4], by rw [List.map_append]; rfl, by rw [List.length_append, lv]; rfl⟩
    · rintro ys H2 ⟨s2, ⟨ts2, ht2, hl2⟩, vals, rfl, lv⟩ pl hpl
      have f0 := Same.upd (o := .lst (vals.map V.int)) hpl
      have npl : pl ≠ tw := fun z => by rw [z, ht2] at hpl; cases hpl
      have s3 := (s1.trans s2).trans f0.t
      have hs3 := hs.t ht s3
      have ht3 := f0 _ _ ht2
      have el3 : upd H2 pl (.lst (vals.map V.int)) pl = some (.lst (vals.map V.int)) := upd_same
      generalize upd H2 pl (.lst (vals.map V.int)) = H3 at s3 hs3 ht3 el3
      clear s2 ht2 f0 hpl hs1 s1 ht1 hl1
      have n8 : n ≤ 8 := by omega
      have n1 : 1 ≤ n := by omega
      walk_at "rd"
      refine ⟨by show 3 ≤ sizeLine; decide, fun q1 hq1 => ?_⟩
      have f1 := Same.upd (o := .lst [V.int 3, V.int 6, V.int 12]) hq1
      have nq1 : q1 ≠ tw := fun z => by rw [z, ht3] at hq1; cases hq1
      walk_at "rd"
      refine ⟨a, ns, tw, ts2, q1, _, rfl, hs3.same f1, f1 _ _ ht3, by omega, upd_same, nq1, by show 0 < 3; decide, fun v H4 ts4 s4 ht4 hl4 hv => ?_⟩
      obtain ⟨m, rfl, m0⟩ : ∃ m : Int, v = .int m ∧ 0 < m := by
        simp only [List.mem_cons, List.not_mem_nil, or_false] at hv
        rcases hv with rfl | rfl | rfl
        · exact ⟨_, rfl, by decide⟩
        · exact ⟨_, rfl, by decide⟩
        · exact ⟨_, rfl, by decide⟩
      have s34 := f1.t.trans s4 (w := tw)
      have hs4 := hs3.t ht3 s34
      have el4 := s34 _ _ el3 npl
      have sH4 := s3.trans s34
      walk_at "rd"
      refine ⟨a, ns, tw, ts4, m, rfl, hs4, ht4, by omega, m0, fun r5 H5 ts5 s5 ht5 hl5 r50 r51 => ?_⟩
      have el5 := s5 _ _ el4 npl
      have hs5 := hs4.t ht4 s5
      have sH5 := sH4.trans s5
      walk_at "rd"
      refine .inl ⟨pl, vals, 1 + r5, rfl, el5, by omega, fun x H6 s6 hx => ?_⟩
      rw [lv] at hx
      have ho : Ord n (toldL (1 + r5) vals) := lv ▸ told_ord (by omega) (by omega) (by omega)
      have ht6 := s6 _ _ ht5
      have hs6 := hs5.same s6
      have sH6 := sH5.trans s6.t
      generalize toldL (1 + r5) vals = ps at hx ho
      clear hs3 hs4 hs5 ht3 ht4 ht5 el3 el4 el5 s34 s4 s5 s6 sH4 sH5 f1 s3
      walk_at "rd"
      refine ifB (fun g => ?_) (fun g => ?_)
      · walk_at "rd"
        exact q x H6 n ps ts5 sH6 ht6 (by omega) ho hx
      have nn1 : n ≠ 1 := fun z => by rw [z] at g; exact absurd g (by decide)
      walk_at "rd"
      refine ⟨a, ns, tw, ts5, 2, rfl, hs6, ht6, by omega, by decide, fun r7 H7 ts7 s7 ht7 hl7 _ _ => ?_⟩
      have hx7 := ord_tt ht6 s7 hx
      have hs7 := hs6.t ht6 s7
      have sH7 := sH6.trans s7
      walk_at "rd"
      refine ifB (fun g => ?_) (fun g => ?_)
      · walk_at "rd"
        exact q x H7 n ps ts7 sH7 ht7 (by omega) ho hx7
      obtain ⟨oa, ob, xs, rfl, ea, eb, hxs⟩ := is_ord hx7
      have lxs : xs.length = ps.length := by rw [hxs.length, List.length_map]
      clear hx hs6 ht6 sH6 s7
      walk_at "rd"
      refine rd_lstT eb fun l hl' => ?_
      have f8 := Same.upd (o := .lst xs) hl'
      have nl : l ≠ tw := fun z => by rw [z, ht7] at hl'; cases hl'
      have ht8 := f8 _ _ ht7
      have hs8 := hs7.same f8
      have ix8 := hxs.same f8
      have el8 : upd H7 l (.lst xs) l = some (.lst xs) := upd_same
      have sH8 := sH7.trans f8.t
      generalize upd H7 l (.lst xs) = H8 at ht8 hs8 ix8 el8 sH8
      clear hs7 ht7 hxs ea eb f8 sH7
      walk_at "rd"
      refine ⟨a, ns, tw, ts7, 3, rfl, hs8, ht8, by omega, by decide, fun r9 H9 ts9 s9 ht9 hl9 r90 r91 => ?_⟩
      have hs9 := hs8.t ht8 s9
      have el9 := s9 _ _ el8 nl
      have ix9 := prs_t ht8 s9 ix8
      have sH9 := sH8.trans s9
      walk_at "rd"
      refine ⟨_, rfl, by omega, by omega, ?_⟩
      refine fp_range (fun i σ H' => ∃ (l : Addr) (zs : List V) (prs : List (Int × Int)) (v4 v8 v9 : Option V), σ = [some (.ref a), some (.ref tw), some (.int 8), some (.int n), v4, some (.ref pl), some (.ref oa), some (.ref l), v8, v9] ∧ SameT tw H H' ∧ Scr K H' a ns ∧ (∃ ts', H' tw = some (.lst ts') ∧ ts'.length ≤ ts.length + 40 + 2 * i) ∧ l ≠ tw ∧ H' l = some (.lst zs) ∧ IsAll H' zs (prs.map prD) ∧ prs.Nodup ∧ ∀ p ∈ prs, inN n p)
        ⟨l, xs, ps, _, _, _, rfl, sH9, hs9, ⟨ts9, ht9, by omega⟩, nl, el9, ix9, nd_of (pw_of ho.up), ho.ix⟩ ?_ ?_
      · rintro i σ G0 hi ⟨l, zs, prs, v4, v8, v9, rfl, sG, hsG, ⟨tg, htg, hlg⟩, nl, el, iz, nd, hin⟩
        walk_at "rd"
        refine ⟨a, ns, tw, tg, n, rfl, hsG, htg, by omega, by omega, fun ra G1 tg1 sg1 htg1 hlg1 ra0 ra1 => ?_⟩
        have hsG1 := hsG.t htg sg1
        walk_at "rd"
        refine ⟨a, ns, tw, tg1, _, rfl, hsG1, htg1, by omega, by omega, fun rb G2 tg2 sg2 htg2 hlg2 rb0 rb1 => ?_⟩
        obtain ⟨o1, o2, o3⟩ := rot_ne ra0 ra1 rb0 rb1
        have hsG2 := hsG1.t htg1 sg2
        have el2 := sg2 _ _ (sg1 _ _ el nl) nl
        have iz2 := prs_t htg1 sg2 (prs_t htg sg1 iz)
        have sG2 := (sG.trans sg1).trans sg2
        walk_at "rd"
        refine ⟨_, _, rfl, rfl, by omega, ?_⟩
        dsimp only
        generalize (ra + 1 + rb) % (n : Int) = rc at o1 o2 o3 ⊢
        have lz : zs.length = prs.length := by rw [iz.length, List.length_map]
        have lp64 := small_prs nd fun p hp => (hin p hp).box n8
        walk_at "rd"
        refine ⟨l, rfl, ⟨_, SqL.of el2⟩, ?_⟩
        refine lp_list (K := K) (xs := zs) (small_ln (by omega)) (fun j ys H' => Same G2 H' ∧ IsAll H' ys ((outP (ra, rc) (prs.take j)).map prD)) ⟨Same.refl _, .nil⟩ (by
          rintro j ys H' ⟨_, h⟩
          rw [h.length, List.length_map]
          have := outP_len (ra, rc) (prs.take j)
          rw [List.length_take] at this
          omega) (fun j ys H' _ h => SqL.of (h.1 _ _ el2)) ?_ ?_
        · rintro j x ys G3 hx ⟨s3, iy⟩
          obtain ⟨p0, hp0, ip0⟩ := pr_get (iz2.same s3) hx
          rw [List.take_add_one, hp0, show (some p0).toList = [p0] from rfl, outP_snoc, List.map_append]
          walk_at "rd"
          refine ⟨by show 2 ≤ sizeLine; decide, fun p hp => ?_⟩
          have s8 := Same.upd (o := .tup [V.int ra, V.int rc]) hp
          refine rd_eqD (d := prD p0) (e := prD (ra, rc)) (ip0.same s8) (.tup upd_same (.cons (.int _) (.cons (.int _) .nil))) (ok_pr _) (ok_pr _) ?_
          rw [eqv_pr]
          walk_at "rd"
          refine ifB (fun g => ?_) (fun g => ?_)
          · walk_at "rd"
            have g' : (!decide (p0 = (ra, rc))) = true := g
            rw [if_pos g']
            exact ⟨s3.trans s8, (iy.same s8).append (.cons (ip0.same s8) .nil)⟩
          · have g' : (!decide (p0 = (ra, rc))) = false := g
            rw [if_neg (by rw [g']; exact Bool.false_ne_true), List.map_nil, List.append_nil]
            exact ⟨s3.trans s8, iy.same s8⟩
        · rintro ys G3 ⟨s3, iy⟩ p4 hp4
          rw [lz, List.take_length] at iy
          have f4 := Same.upd (o := .lst ys) hp4
          have s34 := s3.trans f4
          have iy4 := iy.same f4
          have e4 : upd G3 p4 (.lst ys) p4 = some (.lst ys) := upd_same
          generalize upd G3 p4 (.lst ys) = G4 at s34 iy4 e4
          have ly : ys.length ≤ 64 := by
            rw [iy.length, List.length_map]
            have := outP_len (ra, rc) prs
            omega
          clear s3 iy f4
          walk_at "rd"
          refine ⟨by show 2 ≤ sizeLine; decide, fun p5 hp5 => ?_⟩
          have f5 := Same.upd (o := .tup [V.int ra, V.int rc]) hp5
          have e5 : upd G4 p5 (.tup [V.int ra, V.int rc]) p5 = some (.tup [V.int ra, V.int rc]) := upd_same
          have e45 := f5 _ _ e4
          have iy5 := iy4.same f5
          have s35 := s34.trans f5
          generalize upd G4 p5 (.tup [V.int ra, V.int rc]) = G5 at e5 e45 iy5 s35
          walk_at "rd"
          refine ⟨by show 1 ≤ sizeLine; decide, fun p6 hp6 => ?_⟩
          have f6 := Same.upd (o := .lst [V.ref p5]) hp6
          have e6 : upd G5 p6 (.lst [V.ref p5]) p6 = some (.lst [V.ref p5]) := upd_same
          have e46 := f6 _ _ e45
          have e56 := f6 _ _ e5
          have iy6 := iy5.same f6
          have s36 := s35.trans f6
          generalize upd G5 p6 (.lst [V.ref p5]) = G6 at e6 e46 e56 iy6 s36
          walk_at "rd"
          refine ⟨by show 2 ≤ sizeLine; decide, fun p7 hp7 => ?_⟩
          have f7 := Same.upd (o := .tup [V.int ra, V.int rc]) hp7
          have e7 : upd G6 p7 (.tup [V.int ra, V.int rc]) p7 = some (.tup [V.int ra, V.int rc]) := upd_same
          have e47 := f7 _ _ e46
          have e57 := f7 _ _ e56
          have e67 := f7 _ _ e6
          have iy7 := iy6.same f7
          have s37 := s36.trans f7
          generalize upd G6 p7 (.tup [V.int ra, V.int rc]) = G7 at e7 e47 e57 e67 iy7 s37
          clear e4 e5 e45 iy4 iy5 s34 s35 f5 f6 f7 e6 e46 e56 iy6 s36
          walk_at "rd"
          refine rd_ninL e7 (s37 _ _ el2) (iz2.same s37) ?_
          have htg7 := s37 _ _ htg2
          have nd1 := outP_nd (q := (ra, rc)) nd
          have in1 : ∀ p ∈ outP (ra, rc) prs, inN n p := fun p hp => hin p (mem_outP.mp hp).1
          cases gh : has prs ra rc with
          | true =>
            walk_at "rd"
            refine rd_rep (n := 0) e67 (by decide) fun p8 hp8 => ?_
            have f8 := Same.upd (o := .lst (List.replicate 0 (V.ref p5))) hp8
            refine rd_cat (f8 _ _ e47) upd_same (small_ln (by rw [List.length_replicate]; omega)) fun p9 hp9 => ?_
            have f9 := f8.trans (Same.upd (o := .lst (ys ++ List.replicate 0 (V.ref p5))) hp9)
            have np9 : p9 ≠ tw := fun z => by rw [z, f8 _ _ htg7] at hp9; cases hp9
            walk_at "rd"
            refine ⟨p9, _, outP (ra, rc) prs, _, _, _, rfl, (sG2.trans s37.t).trans f9.t, (hsG2.same s37).same f9, ⟨tg2, f9 _ _ htg7, by omega⟩, np9, upd_same, ?_, nd1, in1⟩
            rw [List.replicate_zero, List.append_nil]
            have := iy7.same f9
            rw [List.replicate_zero, List.append_nil] at this
            exact this
          | false =>
            walk_at "rd"
            refine rd_rep (n := 1) e67 (by decide) fun p8 hp8 => ?_
            have f8 := Same.upd (o := .lst (List.replicate 1 (V.ref p5))) hp8
            refine rd_cat (f8 _ _ e47) upd_same (small_ln (by rw [List.length_replicate]; omega)) fun p9 hp9 => ?_
            have f9 := f8.trans (Same.upd (o := .lst (ys ++ List.replicate 1 (V.ref p5))) hp9)
            have np9 : p9 ≠ tw := fun z => by rw [z, f8 _ _ htg7] at hp9; cases hp9
            walk_at "rd"
            refine ⟨p9, _, outP (ra, rc) prs ++ [(ra, rc)], _, _, _, rfl, (sG2.trans s37.t).trans f9.t, (hsG2.same s37).same f9, ⟨tg2, f9 _ _ htg7, by omega⟩, np9, upd_same, ?_, nd_snoc nd1 fun z => (mem_outP.mp z).2 rfl, fun p hp => ?_⟩
            · rw [List.map_append]
              exact (iy7.same f9).append (.cons (.tup (f9 _ _ e57) (.cons (.int _) (.cons (.int _) .nil))) .nil)
            · rcases List.mem_append.mp hp with h | h
              · exact in1 p h
              · rcases List.mem_singleton.mp h with rfl
                exact ⟨ra0, ra1, o1, o2, o3⟩
      · rintro σ G0 ⟨l, zs, prs, v4, v8, v9, rfl, sG, hsG, ⟨tg, htg, hlg⟩, nl, el, iz, nd, hin⟩
        walk_at "rd"
        refine rd_sortP (.inl el) iz nd (fun p hp => (hin p hp).box n8) fun l2 vs' qs hl2' ha hperm hpw => ?_
        have s4 := Same.upd (o := .lst vs') hl2'
        have ev : upd G0 l2 (.lst vs') l2 = some (.lst vs') := upd_same
        walk_at "rd"
        intro tp htp
        have s5 := Same.upd (o := .tup vs') htp
        walk_at "rd"
        refine ⟨by show 2 ≤ sizeLine; decide, fun o ho' => ?_⟩
        have nto : tp ≠ o := ne_of_none upd_same ho'
        have s6 := Same.upd (o := .tup [V.int n, V.ref tp]) ho'
        have sA := (s4.trans s5).trans s6
        refine q _ _ n qs tg (sG.trans sA.t) (sA _ _ htg) (by omega) (ord_of n1 n8 (fun p hp => hin p (hperm.mem_iff.mp hp)) hpw) ?_
        exact .tup upd_same (.cons (.int _) (.cons (.tup (by rw [upd_ne nto, upd_same]) (((ha.same s4).same s5).same s6)) .nil))
end
end My

set_option Elab.async false
set_option linter.all false
set_option maxRecDepth 100000
set_option maxHeartbeats 4000000
namespace My
open PySem L2
section
variable {P : Program} {w : World} {K : PySem.W.Frag} {mg : Str → Option Value} {base : Heap} {t : Ad}
set_option genSizeOf false in
set_option genInjectivity false in
inductive sp_whole (vs : List V) (H : Hp) (Q : VK) (zz3 : XK) : Prop where
  | mk (x : V) (d : PyData) (a : Int) (b : Int) (zh0 : vs = [x, .int a, .int b]) (zh1 : Is H x d) (zh2 : Q (.bl (wholeB d a b)) H) : sp_whole  vs H Q zz3
theorem ok__law_whole (T : Txt K mg t) : FnOk P w K mg base CX0 1 t.a__law_whole t.d__law_whole ["_law_thing", "_law_low", "_law_most"] sp_whole := by
  refine T.F__law_whole.ok sc__law_whole (fun vs H Q E h => ?_) (fun cdv A outer s H vs Q E hr h => ?_)
  · obtain ⟨x, d, a, b, rfl, _⟩ := h
    rfl
  · obtain ⟨x, d, a, b, rfl, hx, q⟩ := h
    refine ⟨_, (pss_one (ps_ret (pe_and (pe_callB c_isinst (by rfl) T.n_isinstance bt_isinstance (pa_cons (pv 0) (pa_cons (pe_bltn (v := .ty "int") rfl T.n_int bt_int rfl) pa_nil))) (pe_and (pe_not (pe_callB c_isinst (by rfl) T.n_isinstance bt_isinstance (pa_cons (pv 0) (pa_cons (pe_bltn (v := .ty "bool") rfl T.n_bool bt_bool rfl) pa_nil)))) (pe_one (pe_chain op_le op_le (pv 1) (pv 0) (pv 2))))))), ?_⟩
    cases d with
    | int i =>
      have hx' := hx
      cases hx
      have qe : wholeB (.int i) a b = (decide (a ≤ i) && decide (i ≤ b)) := rfl
      rw [qe] at q
      walk_at "rd"
      refine ifB (fun g => ?_) (fun g => ?_)
      · rw [g] at q
        walk_at "rd"
        exact q
      · rw [g] at q
        exact q
    | bool c =>
      walk_at "rd"
      exact q
    | none =>
      walk_at "rd"
      exact q
    | str c =>
      walk_at "rd"
      exact q
    | tuple c =>
      walk_at "rd"
      exact q
    | list c =>
      walk_at "rd"
      exact q
    | dict c =>
      walk_at "rd"
      exact q
end
end My


set_option Elab.async false
set_option linter.all false
set_option maxRecDepth 100000
set_option maxHeartbeats 4000000
namespace My
open PySem L2
theorem eqv_ref (i j : Nat) : PyData.eqv (refD i) (refD j) = decide (i = j) := by
  unfold refD
  rw [PyData.eqv, PyData.eqvAll, PyData.eqvAll, PyData.eqvAll, PyData.eqv, PyData.eqv]
  by_cases h : i = j
  · subst h; simp
  · have : ¬ (i : Int) = (j : Int) := by omega
    simp [h, this]
theorem ok_ref (i : Nat) : okD (refD i) := ⟨by
  have h : PyData.strOk (Str.ofString "refused") = true := by decide +kernel
  simp [refD, PyData.canLay0, PyData.canLayAll0, h], Nat.le_trans (show (refD i).depth ≤ 10 from by show 1 ≤ 10; decide) (by decide)⟩
theorem eqv_refL (js : List Nat) : PyData.eqv (.list (js.map refD)) (.list (js.map refD)) = true := by
  rw [PyData.eqv]
  induction js with
  | nil => rfl
  | cons j js ih => rw [List.map_cons, PyData.eqvAll, eqv_ref, ih, decide_eq_true rfl]; rfl
theorem ok_refL (js : List Nat) : okD (.list (js.map refD)) := by
  have k : PyData.canLayAll0 (js.map refD) = true ∧ PyData.depthAll (js.map refD) ≤ 10 := by
    induction js with
    | nil => exact ⟨rfl, Nat.zero_le _⟩
    | cons j js ih =>
      rw [List.map_cons, PyData.canLayAll0, PyData.depthAll, ih.1, (ok_ref j).1]
      exact ⟨rfl, Nat.max_le.mpr ⟨show 1 ≤ 10 by decide, ih.2⟩⟩
  refine ⟨?_, ?_⟩
  · rw [PyData.canLay0]; exact k.1
  · rw [PyData.depth]
    have := k.2
    omega
theorem isAll_rep {H : Hp} {v : V} {d : PyData} (h : Is H v d) : ∀ m, IsAll H (List.replicate m v) (List.replicate m d)
  | 0 => .nil
  | m + 1 => .cons h (isAll_rep h m)
theorem few_n {ds : List PyData} (h : ds.length ≤ 1000) : FewN (.tuple ds) := fun ds' e => by injection e with e; rw [← e]; exact h
theorem few_o {d : PyData} (h : ∀ ds, d ≠ .tuple ds) : FewN d := fun ds e => absurd e (h ds)
theorem nums_len {ds : List PyData} {a b : Int} (h : (ds.length : Int) < a ∨ b < (ds.length : Int)) : numsB (.tuple ds) a b = false := by
  unfold numsB
  rcases h with h | h
  · have h1 : ¬ a ≤ (ds.length : Int) := by omega
    simp [h1]
  · have h1 : ¬ (ds.length : Int) ≤ b := by omega
    simp [h1]
theorem nums_last {ds : List PyData} {d : PyData} {a b : Int} (h : wholeB d 0 9999 = false) : numsB (.tuple (ds ++ [d])) a b = false := by
  unfold numsB
  simp [h]
theorem whole_gt {i lo hi : Int} (h : hi < i ∨ i < lo) : wholeB (.int i) lo hi = false := by
  unfold wholeB
  rw [Bool.and_eq_false_iff]
  rcases h with h | h
  · exact .inr (decide_eq_false (by omega))
  · exact .inl (decide_eq_false (by omega))
theorem noL_ordk (n : Nat) (ps : List (Int × Int)) : noL (ordD n ps) = true := by
  unfold ordD
  rw [noL, noLs, noLs, noLs, noL, noL, noLs_pr]
  rfl
section
variable {P : Program} {w : World} {K : PySem.W.Frag} {mg : Str → Option Value} {base : Heap} {t : Ad}
set_option genSizeOf false in
set_option genInjectivity false in
inductive sp_refusals (K : PySem.W.Frag) (vs : List V) (H : Hp) (Q : VK) (zz3 : XK) : Prop where
  | mk (a : Addr) (ns : List Int) (tw : Addr) (ts : List V) (x : V) (n : Nat) (ps : List (Int × Int)) (st : Int) (vt : Addr) (vals : List Int) (zh0 : vs = [.ref a, .ref tw, x, .int st, .ref vt]) (zh1 : Scr K H a ns) (zh2 : H tw = some (.lst ts)) (zh3 : ts.length ≤ 400) (zh4 : Is H x (ordD n ps)) (zh5 : Ord n ps) (zh6 : 1 ≤ st) (zh7 : st ≤ 999) (zh8 : H vt = some (.tup (vals.map V.int))) (zh9 : vals.length = n) (zh10 : ∀ H', Q (.bl true) H') : sp_refusals K vs H Q zz3
theorem ok__law_refusals (T : Txt K mg t) : FnOk P w K mg base CX0 11 t.a__law_refusals t.d__law_refusals ["_law_script", "_law_town", "_law_order_here", "_law_step", "_law_longs"] (sp_refusals K) := by
  refine T.F__law_refusals.ok sc__law_refusals (fun vs H Q E h => ?_) (fun cdv A outer s0 H vs Q E hr h => ?_)
  · obtain ⟨a, ns, tw, ts, x, n, ps, st, vt, vals, rfl, _⟩ := h
    rfl
  · obtain ⟨a, ns, tw, ts, x, n, ps, st, vt, vals, rfl, hs, ht, hl, hx, ho, st1, st9, evt, lv, q⟩ := h
    refine ⟨_, (pss_cons (ps_set (i := 5) sc__law_refusals.nd rfl (Or.inr rfl) (pe_call (ok__law_pick T) (hr.mono (by decide)) rfl T.m__law_pick T.F__law_pick.kp T.b__law_pick .nil pass0 (pa_cons (pv 0) (pa_cons (pv 1) (pa_cons (pe_lst (pa_cons (pe_ix (k_ix K) (pv 2) pe_int (fun _ _ => rfl)) (pa_cons (pe_un un_neg pe_int) (pa_cons pe_non (pa_cons pe_bl (pa_cons pe_str pa_nil)))))) pa_nil)))))
      (pss_cons (ps_if (PW.pt (pw_or (pt_cmpR (op_neD hr.units) (pe_call (ok__law_ask T) (hr.mono (by decide)) rfl T.m__law_ask T.F__law_ask.kp T.b__law_ask .nil pass0 (pa_cons pe_int (pa_cons (pv 2) (pa_cons (pv 5) (pa_cons pe_non pa_nil))))) (pe_tup (pa_cons pe_str (pa_cons pe_int pa_nil))) (nomark _)) (pw_or1 (pt_cmpR (op_neD hr.units) (pe_call (ok__law_ask T) (hr.mono (by decide)) rfl T.m__law_ask T.F__law_ask.kp T.b__law_ask .nil pass0 (pa_cons pe_int (pa_cons (pv 2) (pa_cons (pv 5) (pa_cons pe_non pa_nil))))) (pe_tup (pa_cons pe_str (pa_cons pe_int pa_nil))) (nomark _))))) (pss_one (ps_ret pe_bl)) pss_nil)
      (pss_cons (ps_if (pt_cmpR (op_neD hr.units) (pe_call (ok__law_ask T) (hr.mono (by decide)) rfl T.m__law_ask T.F__law_ask.kp T.b__law_ask .nil pass0 (pa_cons pe_int (pa_cons (pv 2) (pa_cons pe_int (pa_cons (pv 5) pa_nil))))) (pe_tup (pa_cons pe_str (pa_cons pe_int pa_nil))) (nomark _)) (pss_one (ps_ret pe_bl)) pss_nil)
      (pss_cons (ps_set (i := 5) sc__law_refusals.nd rfl (Or.inr rfl) (pe_call (ok__law_pick T) (hr.mono (by decide)) rfl T.m__law_pick T.F__law_pick.kp T.b__law_pick .nil pass0 (pa_cons (pv 0) (pa_cons (pv 1) (pa_cons (pe_lst (pa_cons pe_int (pa_cons pe_int (pa_cons (pe_un un_neg pe_int) (pa_cons pe_non (pa_cons pe_bl (pa_cons pe_str pa_nil))))))) pa_nil)))))
      (pss_cons (ps_if (pt_cmpR (op_neD hr.units) (pe_lc rfl ⟨True.intro, True.intro, True.intro, (.inl rfl), (.inl rfl), True.intro⟩ (M := ["_law_what", "_law_odd", "_law_order_here"]) (.own (.free 5 rfl rfl (.free 2 rfl rfl .nil))) (gk_name rfl) rfl (by decide +kernel) (k_ptup K (pe_tup (pa_cons pe_int (pa_cons pe_int (pa_cons pe_int (pa_cons pe_int pa_nil)))))) (fun C fp s1 H1 => ⟨pg_name (i := 0) (show (["_law_what", "_law_odd", "_law_order_here"] : List Str).Nodup by decide +kernel) rfl (Or.inl rfl), pif_nil, (pe_call (ok__law_ask T) (hr.mono (by decide)) rfl T.m__law_ask T.F__law_ask.kp T.b__law_ask .nil pass0 (pa_cons (pv 0) (pa_cons (pv 2) (pa_cons (pv 1) (pa_cons pe_non pa_nil)))))⟩)) (pe_op op_rep (pe_lst (pa_cons (pe_tup (pa_cons pe_str (pa_cons pe_int pa_nil))) pa_nil)) pe_int) (nomark _)) (pss_one (ps_ret pe_bl)) pss_nil)
      (pss_cons (ps_if (pt_cmpR (op_neD hr.units) (pe_call (ok__law_ask T) (hr.mono (by decide)) rfl T.m__law_ask T.F__law_ask.kp T.b__law_ask .nil pass0 (pa_cons pe_int (pa_cons (pv 5) (pa_cons pe_non (pa_cons pe_non pa_nil))))) (pe_tup (pa_cons pe_str (pa_cons pe_int pa_nil))) (nomark _)) (pss_one (ps_ret pe_bl)) pss_nil)
      (pss_cons (ps_set (i := 6) sc__law_refusals.nd rfl (Or.inl rfl) (pe_lst (pa_cons pe_non (pa_cons (pe_callTy (k_list K) (by rfl) T.n_list bt_list (pa_cons (pv 4) pa_nil)) (pa_cons (pe_op op_catU (pe_slice (k_slT K) (pv 4) (po_some pe_int) po_none) (pe_tup (pa_cons (pe_un un_neg pe_int) pa_nil))) (pa_cons (pe_op op_catU (pe_slice (k_slT K) (pv 4) (po_some pe_int) po_none) (pe_tup (pa_cons pe_int pa_nil))) (pa_cons (pe_op op_catU (pe_slice (k_slT K) (pv 4) po_none (po_some (pe_un un_neg pe_int))) (pe_tup (pa_cons pe_bl pa_nil))) (pa_cons (pe_op op_catU (pe_slice (k_slT K) (pv 4) po_none (po_some (pe_un un_neg pe_int))) (pe_tup (pa_cons pe_str pa_nil))) (pa_cons (pe_tup pa_nil) pa_nil)))))))))
      (pss_cons (ps_set (i := 5) sc__law_refusals.nd rfl (Or.inr rfl) (pe_call (ok__law_pick T) (hr.mono (by decide)) rfl T.m__law_pick T.F__law_pick.kp T.b__law_pick .nil pass0 (pa_cons (pv 0) (pa_cons (pv 1) (pa_cons (pe_op op_cat (pv 6) (pe_lst (pa_cons (pe_op op_repT (pv 4) pe_int) pa_nil))) pa_nil)))))
      (pss_cons (ps_if (PW.pt (pw_or (pt_cmpR (op_neD hr.units) (pe_call (ok__law_ask T) (hr.mono (by decide)) rfl T.m__law_ask T.F__law_ask.kp T.b__law_ask .nil pass0 (pa_cons pe_int (pa_cons (pv 3) (pa_cons (pv 5) (pa_cons pe_non pa_nil))))) (pe_tup (pa_cons pe_str (pa_cons pe_int pa_nil))) (nomark _)) (pw_or1 (pt_cmpR (op_neD hr.units) (pe_call (ok__law_ask T) (hr.mono (by decide)) rfl T.m__law_ask T.F__law_ask.kp T.b__law_ask .nil pass0 (pa_cons pe_int (pa_cons (pv 2) (pa_cons (pv 3) (pa_cons (pv 5) pa_nil))))) (pe_tup (pa_cons pe_str (pa_cons pe_int pa_nil))) (nomark _))))) (pss_one (ps_ret pe_bl)) pss_nil)
      (pss_one (ps_ret (pe_cmpR (op_eqD hr.units) (pe_call (ok__law_ask T) (hr.mono (by decide)) rfl T.m__law_ask T.F__law_ask.kp T.b__law_ask .nil pass0 (pa_cons pe_int (pa_cons (pv 2) (pa_cons (pv 3) (pa_cons (pe_op op_catU (pv 4) (pe_tup (pa_cons pe_int pa_nil))) pa_nil))))) (pe_tup (pa_cons pe_str (pa_cons pe_int pa_nil))) (nomark _))))))))))))), ?_⟩
    have n1 := ho.lo
    have n8 := ho.hi
    obtain ⟨oa, ob, xs, rfl, ea, eb, hxs⟩ := is_ord hx
    walk_at "rd"
    refine ⟨_, rfl, ?_⟩
    walk_at "rd"
    refine ⟨by show 5 ≤ sizeLine; decide, fun pl hpl => ?_⟩
    have npl : pl ≠ tw := fun z => by rw [z, ht] at hpl; cases hpl
    have t1 := Same.upd (o := .lst [V.int (n : Int), V.int (-1), V.non, V.bl true, V.str (Str.ofString "0")]) hpl
    have epl : upd H pl (.lst [V.int (n : Int), V.int (-1), V.non, V.bl true, V.str (Str.ofString "0")]) pl = some (.lst [V.int (n : Int), V.int (-1), V.non, V.bl true, V.str (Str.ofString "0")]) := upd_same
    generalize upd H pl (.lst [V.int (n : Int), V.int (-1), V.non, V.bl true, V.str (Str.ofString "0")]) = H1 at t1 epl
    generalize eW : [V.int (n : Int), V.int (-1), V.non, V.bl true, V.str (Str.ofString "0")] = W at *
    have W5 : W.length = 5 := by rw [← eW]; rfl
    walk_at "rd"
    refine ⟨a, ns, tw, ts, pl, W, rfl, hs.same t1, t1 _ _ ht, by omega, epl, npl, by omega, fun v HB ts2 s2 ht2 hl2 hv => ?_⟩
    have keep : ∀ c us, H1 c = some (.tup us) → HB c = some (.tup us) := fun c us e => s2 _ _ e (ne_of e (t1 _ _ ht) (by intro z; cases z))
    have hx2 : Is HB (.ref oa) (ordD n ps) := (hx.same t1).tmono keep (noL_ordk _ _)
    have evt2 := keep _ _ (t1 _ _ evt)
    have hs2 := (hs.same t1).t (t1 _ _ ht) s2
    have wrong : ∃ e, Is HB v e ∧ wholeB e 0 ((n : Int) - 1) = false := by
      rw [← eW] at hv
      simp only [List.mem_cons, List.not_mem_nil, or_false] at hv
      rcases hv with rfl | rfl | rfl | rfl | rfl
      · exact ⟨_, .int _, whole_gt (.inl (by omega))⟩
      · exact ⟨_, .int _, whole_gt (.inr (by decide))⟩
      · exact ⟨_, .non, rfl⟩
      · exact ⟨_, .bl _, rfl⟩
      · exact ⟨_, .str _, rfl⟩
    obtain ⟨e, iv, hw⟩ := wrong
    clear keep eW hv epl t1 s2 npl ht hs hx ea eb hxs evt W5
    have sR := Same.refl HB
    walk_at "rd"
    refine ⟨_, _, _, _, rfl, .th1 (.inl rfl) (hx2.same sR) ho (iv.same sR) .non hw (fun r Ha1 sa1 ir => ?_)⟩
    walk_at "rd"
    refine ⟨by show 2 ≤ sizeLine; decide, fun pa hpa => ?_⟩
    have ua := sR.trans (sa1.trans (Same.upd (o := .tup [V.str "refused", V.int 3]) hpa))
    refine rd_eqD (e := refD 3) (ir.same (Same.upd hpa)) (.tup upd_same (.cons (.str _) (.cons (.int _) .nil))) (ok_ref 3) (ok_ref 3) ?_
    rw [eqv_ref, decide_eq_true rfl]
    generalize upd Ha1 pa (.tup [V.str "refused", V.int 3]) = Ca at ua
    clear sR ir hpa sa1
    have sR := ua
    clear ua
    walk_at "rd"
    refine ifF rfl ?_
    walk_at "rd"
    refine ⟨_, _, _, _, rfl, .th1 (.inr rfl) (hx2.same sR) ho (iv.same sR) .non hw (fun r Hb1 sb1 ir => ?_)⟩
    walk_at "rd"
    refine ⟨by show 2 ≤ sizeLine; decide, fun pb hpb => ?_⟩
    have ub := sR.trans (sb1.trans (Same.upd (o := .tup [V.str "refused", V.int 3]) hpb))
    refine rd_eqD (e := refD 3) (ir.same (Same.upd hpb)) (.tup upd_same (.cons (.str _) (.cons (.int _) .nil))) (ok_ref 3) (ok_ref 3) ?_
    rw [eqv_ref, decide_eq_true rfl]
    generalize upd Hb1 pb (.tup [V.str "refused", V.int 3]) = Cb at ub
    clear sR ir hpb sb1
    have sR := ub
    clear ub
    walk_at "rd"
    refine ifF rfl ?_
    walk_at "rd"
    refine ⟨_, _, _, _, rfl, .th2 (hx2.same sR) ho (.int 0) (iv.same sR) (th_ok (by decide) (by omega)) hw (fun r Hc1 sc1 ir => ?_)⟩
    walk_at "rd"
    refine ⟨by show 2 ≤ sizeLine; decide, fun pc hpc => ?_⟩
    have uc := sR.trans (sc1.trans (Same.upd (o := .tup [V.str "refused", V.int 3]) hpc))
    refine rd_eqD (e := refD 3) (ir.same (Same.upd hpc)) (.tup upd_same (.cons (.str _) (.cons (.int _) .nil))) (ok_ref 3) (ok_ref 3) ?_
    rw [eqv_ref, decide_eq_true rfl]
    generalize upd Hc1 pc (.tup [V.str "refused", V.int 3]) = Cc at uc
    clear sR ir hpc sc1
    have sR := uc
    clear uc
    walk_at "rd"
    refine ifF rfl ?_
    walk_at "rd"
    refine ⟨_, rfl, ?_⟩
    walk_at "rd"
    refine ⟨by show 6 ≤ sizeLine; decide, fun pm hpm => ?_⟩
    have npm : pm ≠ tw := fun z => by rw [z, sR _ _ ht2] at hpm; cases hpm
    have t1 := sR.trans (Same.upd (o := .lst [V.int 0, V.int 1000, V.int (-1), V.non, V.bl true, V.str (Str.ofString "1")]) hpm)
    have epm : upd Cc pm (.lst [V.int 0, V.int 1000, V.int (-1), V.non, V.bl true, V.str (Str.ofString "1")]) pm = some (.lst [V.int 0, V.int 1000, V.int (-1), V.non, V.bl true, V.str (Str.ofString "1")]) := upd_same
    generalize upd Cc pm (.lst [V.int 0, V.int 1000, V.int (-1), V.non, V.bl true, V.str (Str.ofString "1")]) = H3 at t1 epm
    generalize eW : [V.int 0, V.int 1000, V.int (-1), V.non, V.bl true, V.str (Str.ofString "1")] = W2 at *
    have W6 : W2.length = 6 := by rw [← eW]; rfl
    walk_at "rd"
    refine ⟨a, ns, tw, ts2, pm, W2, rfl, hs2.same t1, t1 _ _ ht2, by omega, epm, npm, by omega, fun v3 HD ts3 s3 ht3 hl3 hv => ?_⟩
    have keep : ∀ c us, H3 c = some (.tup us) → HD c = some (.tup us) := fun c us e => s3 _ _ e (ne_of e (t1 _ _ ht2) (by intro z; cases z))
    have hx3 : Is HD (.ref oa) (ordD n ps) := (hx2.same t1).tmono keep (noL_ordk _ _)
    have evt3 := keep _ _ (t1 _ _ evt2)
    have hs3 := (hs2.same t1).t (t1 _ _ ht2) s3
    have wrong : ∃ e, Is HD v3 e ∧ wholeB e 1 999 = false := by
      rw [← eW] at hv
      simp only [List.mem_cons, List.not_mem_nil, or_false] at hv
      rcases hv with rfl | rfl | rfl | rfl | rfl | rfl
      · exact ⟨_, .int _, rfl⟩
      · exact ⟨_, .int _, rfl⟩
      · exact ⟨_, .int _, rfl⟩
      · exact ⟨_, .non, rfl⟩
      · exact ⟨_, .bl _, rfl⟩
      · exact ⟨_, .str _, rfl⟩
    obtain ⟨e3, iv3, hw3⟩ := wrong
    clear keep eW hv epm t1 s3 npm ht2 hs2 hx2 evt2 W6 sR iv hw
    walk_at "rd"
    refine ⟨by show 4 ≤ sizeLine; decide, fun pt hpt => ⟨pt, rfl, ⟨_, SqT.of upd_same⟩, ?_⟩⟩
    have u2 := Same.upd (o := .tup [V.int 7, V.int 8, V.int 9, V.int 10]) hpt
    have et : upd HD pt (.tup [V.int 7, V.int 8, V.int 9, V.int 10]) pt = some (.tup [V.int 7, V.int 8, V.int 9, V.int 10]) := upd_same
    generalize upd HD pt (.tup [V.int 7, V.int 8, V.int 9, V.int 10]) = H14 at u2 et
    clear hpt
    refine lp_tup (K := K) (xs := [V.int 7, V.int 8, V.int 9, V.int 10]) (small_ln (by decide)) (fun j zs H' => Same H14 H' ∧ IsAll H' zs (List.replicate j (refD 2))) ⟨Same.refl _, .nil⟩ (by rintro j zs H' ⟨_, h⟩; rw [h.length, List.length_replicate]; exact Nat.le_refl _) (fun j zs H' _ h => SqT.of (h.1 _ _ et)) ?_ ?_
    · rintro j x zs H15 hxj ⟨s15, iz⟩
      obtain ⟨k, rfl, k7, k10⟩ : ∃ k : Int, x = .int k ∧ 7 ≤ k ∧ k ≤ 10 := by
        have := List.mem_of_getElem? hxj
        simp only [List.mem_cons, List.not_mem_nil, or_false] at this
        rcases this with rfl | rfl | rfl | rfl
        · exact ⟨7, rfl, by decide, by decide⟩
        · exact ⟨8, rfl, by decide, by decide⟩
        · exact ⟨9, rfl, by decide, by decide⟩
        · exact ⟨10, rfl, by decide, by decide⟩
      have s15' := u2.trans s15
      walk_at "rd"
      refine ⟨_, _, _, _, rfl, .st k7 k10 (hx3.same s15') ho (iv3.same s15') .non (few_o (fun _ z => by cases z)) hw3 (fun r H16 s16 ir => ⟨s15.trans s16, ?_⟩)⟩
      rw [List.replicate_succ']
      exact (iz.same s16).append (.cons ir .nil)
    rintro zs H10 ⟨s10, iz⟩ c1 hc1
    replace s10 := u2.trans s10
    have u1 := Same.upd (o := .lst zs) hc1
    have i1 := iz.same u1
    have k1 : upd H10 c1 (.lst zs) c1 = some (.lst zs) := upd_same
    replace s10 := s10.trans u1
    generalize upd H10 c1 (.lst zs) = H11 at s10 i1 k1
    clear u1 hc1 iz u2 et
    walk_at "rd"
    refine ⟨by show 2 ≤ sizeLine; decide, fun pa1 hpa1 => ?_⟩
    have ta1 := Same.upd (o := .tup [V.str "refused", V.int 2]) hpa1
    walk_at "rd"
    refine ⟨by show 1 ≤ sizeLine; decide, fun pb1 hpb1 => ?_⟩
    have tb1 := Same.upd (o := .lst [V.ref pa1]) hpb1
    walk_at "rd"
    refine rd_rep (n := 4) upd_same (by decide) fun pc1 hpc1 => ?_
    have tc1 := Same.upd (o := .lst (List.replicate 4 (V.ref pa1))) hpc1
    have td1 := (ta1.trans tb1).trans tc1
    have ia1 : IsAll (upd (upd (upd H11 pa1 (.tup [V.str "refused", V.int 2])) pb1 (.lst [V.ref pa1])) pc1 (.lst (List.replicate 4 (V.ref pa1)))) (List.replicate 4 (V.ref pa1)) (List.replicate 4 (refD 2)) := isAll_rep (.tup (tc1 _ _ (tb1 _ _ upd_same)) (.cons (.str _) (.cons (.int _) .nil))) _
    refine rd_eqD (d := .list ([2, 2, 2, 2].map refD)) (e := .list ([2, 2, 2, 2].map refD)) (.lst (Rd.of (td1 _ _ k1)) (i1.same td1)) (.lst (Rd.of upd_same) ia1) (ok_refL _) (ok_refL _) ?_
    rw [eqv_refL]
    have sR := s10.trans td1
    generalize upd (upd (upd H11 pa1 (.tup [V.str "refused", V.int 2])) pb1 (.lst [V.ref pa1])) pc1 (.lst (List.replicate 4 (V.ref pa1))) = H12 at sR
    clear s10 td1 ta1 tb1 tc1 ia1 i1 k1 hpa1 hpb1 hpc1
    walk_at "rd"
    refine ifF rfl ?_
    walk_at "rd"
    refine ⟨_, _, _, _, rfl, .st12 (iv3.same sR) .non (few_o (fun _ z => by cases z)) hw3 (fun r Hd1 sd1 ir => ?_)⟩
    walk_at "rd"
    refine ⟨by show 2 ≤ sizeLine; decide, fun pd hpd => ?_⟩
    have ud := sR.trans (sd1.trans (Same.upd (o := .tup [V.str "refused", V.int 2]) hpd))
    refine rd_eqD (e := refD 2) (ir.same (Same.upd hpd)) (.tup upd_same (.cons (.str _) (.cons (.int _) .nil))) (ok_ref 2) (ok_ref 2) ?_
    rw [eqv_ref, decide_eq_true rfl]
    generalize upd Hd1 pd (.tup [V.str "refused", V.int 2]) = Cd at ud
    clear sR ir hpd sd1
    have sR := ud
    clear ud
    walk_at "rd"
    refine ifF rfl ?_
    obtain ⟨x0, tl, hc⟩ : ∃ x0 tl, vals = x0 :: tl := by
      cases vals with
      | nil => simp at lv; omega
      | cons x0 tl => exact ⟨x0, tl, rfl⟩
    obtain ⟨ini, zl, hi⟩ : ∃ ini zl, vals = ini ++ [zl] := ⟨vals.dropLast, vals.getLast (by rw [hc]; simp), (List.dropLast_concat_getLast _).symm⟩
    have ltl : tl.length + 1 = n := by rw [hc] at lv; simpa using lv
    have lin : ini.length + 1 = n := by rw [hi] at lv; simpa using lv
    generalize Cd = G0 at sR
    have sA := sR
    have evt := sA _ _ evt3
    have evc : G0 vt = some (.tup (V.int x0 :: tl.map V.int)) := by rw [evt, hc]; rfl
    have evi : G0 vt = some (.tup (ini.map V.int ++ [V.int zl])) := by rw [evt, hi, List.map_append]; rfl
    clear sR
    walk_at "rd"
    refine rd_lstT evt fun q1 hq1 => ?_
    have nq1 : q1 ≠ tw := fun z => by rw [z, sA _ _ ht3] at hq1; cases hq1
    have sn := Same.upd (o := .lst (vals.map V.int)) hq1
    have eq1 : upd G0 q1 (.lst (vals.map V.int)) q1 = some (.lst (vals.map V.int)) := upd_same
    replace sA := sA.trans sn
    replace evt := sn _ _ evt
    replace evc := sn _ _ evc
    replace evi := sn _ _ evi
    generalize upd G0 q1 (.lst (vals.map V.int)) = G1 at sA eq1 evt evc evi
    clear sn hq1
    walk_at "rd"
    refine rd_sl ?_
    walk_at "rd"
    refine rd_part ?_
    walk_at "rd"
    refine ⟨1, rfl, ?_⟩
    refine rd_noP ?_
    refine rd_tail evc fun q2 hq2 => ?_
    have sn := Same.upd (o := .tup (tl.map V.int)) hq2
    have eq2 : upd G1 q2 (.tup (tl.map V.int)) q2 = some (.tup (tl.map V.int)) := upd_same
    replace sA := sA.trans sn
    replace evt := sn _ _ evt
    replace evc := sn _ _ evc
    replace evi := sn _ _ evi
    replace eq1 := sn _ _ eq1
    generalize upd G1 q2 (.tup (tl.map V.int)) = G2 at sA eq2 evt evc evi eq1
    clear sn hq2
    walk_at "rd"
    refine ⟨_, rfl, ?_⟩
    walk_at "rd"
    refine ⟨by show 1 ≤ sizeLine; decide, fun q3 hq3 => ?_⟩
    have sn := Same.upd (o := .tup [V.int (-1)]) hq3
    have eq3 : upd G2 q3 (.tup [V.int (-1)]) q3 = some (.tup [V.int (-1)]) := upd_same
    replace sA := sA.trans sn
    replace evt := sn _ _ evt
    replace evc := sn _ _ evc
    replace evi := sn _ _ evi
    replace eq1 := sn _ _ eq1
    replace eq2 := sn _ _ eq2
    generalize upd G2 q3 (.tup [V.int (-1)]) = G3 at sA eq3 evt evc evi eq1 eq2
    clear sn hq3
    walk_at "rd"
    refine rd_catU eq2 eq3 (small_ln (by rw [List.length_map]; show tl.length + 1 ≤ 1000; omega)) fun q4 G4 sn eq4 => ?_
    replace sA := sA.trans sn
    replace evt := sn _ _ evt
    replace evc := sn _ _ evc
    replace evi := sn _ _ evi
    replace eq1 := sn _ _ eq1
    replace eq2 := sn _ _ eq2
    replace eq3 := sn _ _ eq3
    clear sn
    walk_at "rd"
    refine rd_sl ?_
    walk_at "rd"
    refine rd_part ?_
    walk_at "rd"
    refine ⟨1, rfl, ?_⟩
    refine rd_noP ?_
    refine rd_tail evc fun q5 hq5 => ?_
    have sn := Same.upd (o := .tup (tl.map V.int)) hq5
    have eq5 : upd G4 q5 (.tup (tl.map V.int)) q5 = some (.tup (tl.map V.int)) := upd_same
    replace sA := sA.trans sn
    replace evt := sn _ _ evt
    replace evc := sn _ _ evc
    replace evi := sn _ _ evi
    replace eq1 := sn _ _ eq1
    replace eq2 := sn _ _ eq2
    replace eq3 := sn _ _ eq3
    replace eq4 := sn _ _ eq4
    generalize upd G4 q5 (.tup (tl.map V.int)) = G5 at sA eq5 evt evc evi eq1 eq2 eq3 eq4
    clear sn hq5
    walk_at "rd"
    refine ⟨by show 1 ≤ sizeLine; decide, fun q6 hq6 => ?_⟩
    have sn := Same.upd (o := .tup [V.int 10000]) hq6
    have eq6 : upd G5 q6 (.tup [V.int 10000]) q6 = some (.tup [V.int 10000]) := upd_same
    replace sA := sA.trans sn
    replace evt := sn _ _ evt
    replace evc := sn _ _ evc
    replace evi := sn _ _ evi
    replace eq1 := sn _ _ eq1
    replace eq2 := sn _ _ eq2
    replace eq3 := sn _ _ eq3
    replace eq4 := sn _ _ eq4
    replace eq5 := sn _ _ eq5
    generalize upd G5 q6 (.tup [V.int 10000]) = G6 at sA eq6 evt evc evi eq1 eq2 eq3 eq4 eq5
    clear sn hq6
    walk_at "rd"
    refine rd_catU eq5 eq6 (small_ln (by rw [List.length_map]; show tl.length + 1 ≤ 1000; omega)) fun q7 G7 sn eq7 => ?_
    replace sA := sA.trans sn
    replace evt := sn _ _ evt
    replace evc := sn _ _ evc
    replace evi := sn _ _ evi
    replace eq1 := sn _ _ eq1
    replace eq2 := sn _ _ eq2
    replace eq3 := sn _ _ eq3
    replace eq4 := sn _ _ eq4
    replace eq5 := sn _ _ eq5
    replace eq6 := sn _ _ eq6
    clear sn
    walk_at "rd"
    refine rd_sl ?_
    walk_at "rd"
    refine rd_noP ?_
    refine rd_part ?_
    walk_at "rd"
    refine ⟨_, rfl, ?_⟩
    refine ⟨-1, rfl, ?_⟩
    refine rd_init evi fun q8 hq8 => ?_
    have sn := Same.upd (o := .tup (ini.map V.int)) hq8
    have eq8 : upd G7 q8 (.tup (ini.map V.int)) q8 = some (.tup (ini.map V.int)) := upd_same
    replace sA := sA.trans sn
    replace evt := sn _ _ evt
    replace evc := sn _ _ evc
    replace evi := sn _ _ evi
    replace eq1 := sn _ _ eq1
    replace eq2 := sn _ _ eq2
    replace eq3 := sn _ _ eq3
    replace eq4 := sn _ _ eq4
    replace eq5 := sn _ _ eq5
    replace eq6 := sn _ _ eq6
    replace eq7 := sn _ _ eq7
    generalize upd G7 q8 (.tup (ini.map V.int)) = G8 at sA eq8 evt evc evi eq1 eq2 eq3 eq4 eq5 eq6 eq7
    clear sn hq8
    walk_at "rd"
    refine ⟨by show 1 ≤ sizeLine; decide, fun q9 hq9 => ?_⟩
    have sn := Same.upd (o := .tup [V.bl true]) hq9
    have eq9 : upd G8 q9 (.tup [V.bl true]) q9 = some (.tup [V.bl true]) := upd_same
    replace sA := sA.trans sn
    replace evt := sn _ _ evt
    replace evc := sn _ _ evc
    replace evi := sn _ _ evi
    replace eq1 := sn _ _ eq1
    replace eq2 := sn _ _ eq2
    replace eq3 := sn _ _ eq3
    replace eq4 := sn _ _ eq4
    replace eq5 := sn _ _ eq5
    replace eq6 := sn _ _ eq6
    replace eq7 := sn _ _ eq7
    replace eq8 := sn _ _ eq8
    generalize upd G8 q9 (.tup [V.bl true]) = G9 at sA eq9 evt evc evi eq1 eq2 eq3 eq4 eq5 eq6 eq7 eq8
    clear sn hq9
    walk_at "rd"
    refine rd_catU eq8 eq9 (small_ln (by rw [List.length_map]; show ini.length + 1 ≤ 1000; omega)) fun q10 G10 sn eq10 => ?_
    replace sA := sA.trans sn
    replace evt := sn _ _ evt
    replace evc := sn _ _ evc
    replace evi := sn _ _ evi
    replace eq1 := sn _ _ eq1
    replace eq2 := sn _ _ eq2
    replace eq3 := sn _ _ eq3
    replace eq4 := sn _ _ eq4
    replace eq5 := sn _ _ eq5
    replace eq6 := sn _ _ eq6
    replace eq7 := sn _ _ eq7
    replace eq8 := sn _ _ eq8
    replace eq9 := sn _ _ eq9
    clear sn
    walk_at "rd"
    refine rd_sl ?_
    walk_at "rd"
    refine rd_noP ?_
    refine rd_part ?_
    walk_at "rd"
    refine ⟨_, rfl, ?_⟩
    refine ⟨-1, rfl, ?_⟩
    refine rd_init evi fun q11 hq11 => ?_
    have sn := Same.upd (o := .tup (ini.map V.int)) hq11
    have eq11 : upd G10 q11 (.tup (ini.map V.int)) q11 = some (.tup (ini.map V.int)) := upd_same
    replace sA := sA.trans sn
    replace evt := sn _ _ evt
    replace evc := sn _ _ evc
    replace evi := sn _ _ evi
    replace eq1 := sn _ _ eq1
    replace eq2 := sn _ _ eq2
    replace eq3 := sn _ _ eq3
    replace eq4 := sn _ _ eq4
    replace eq5 := sn _ _ eq5
    replace eq6 := sn _ _ eq6
    replace eq7 := sn _ _ eq7
    replace eq8 := sn _ _ eq8
    replace eq9 := sn _ _ eq9
    replace eq10 := sn _ _ eq10
    generalize upd G10 q11 (.tup (ini.map V.int)) = G11 at sA eq11 evt evc evi eq1 eq2 eq3 eq4 eq5 eq6 eq7 eq8 eq9 eq10
    clear sn hq11
    walk_at "rd"
    refine ⟨by show 1 ≤ sizeLine; decide, fun q12 hq12 => ?_⟩
    have sn := Same.upd (o := .tup [V.str (Str.ofString "1")]) hq12
    have eq12 : upd G11 q12 (.tup [V.str (Str.ofString "1")]) q12 = some (.tup [V.str (Str.ofString "1")]) := upd_same
    replace sA := sA.trans sn
    replace evt := sn _ _ evt
    replace evc := sn _ _ evc
    replace evi := sn _ _ evi
    replace eq1 := sn _ _ eq1
    replace eq2 := sn _ _ eq2
    replace eq3 := sn _ _ eq3
    replace eq4 := sn _ _ eq4
    replace eq5 := sn _ _ eq5
    replace eq6 := sn _ _ eq6
    replace eq7 := sn _ _ eq7
    replace eq8 := sn _ _ eq8
    replace eq9 := sn _ _ eq9
    replace eq10 := sn _ _ eq10
    replace eq11 := sn _ _ eq11
    generalize upd G11 q12 (.tup [V.str (Str.ofString "1")]) = G12 at sA eq12 evt evc evi eq1 eq2 eq3 eq4 eq5 eq6 eq7 eq8 eq9 eq10 eq11
    clear sn hq12
    walk_at "rd"
    refine rd_catU eq11 eq12 (small_ln (by rw [List.length_map]; show ini.length + 1 ≤ 1000; omega)) fun q13 G13 sn eq13 => ?_
    replace sA := sA.trans sn
    replace evt := sn _ _ evt
    replace evc := sn _ _ evc
    replace evi := sn _ _ evi
    replace eq1 := sn _ _ eq1
    replace eq2 := sn _ _ eq2
    replace eq3 := sn _ _ eq3
    replace eq4 := sn _ _ eq4
    replace eq5 := sn _ _ eq5
    replace eq6 := sn _ _ eq6
    replace eq7 := sn _ _ eq7
    replace eq8 := sn _ _ eq8
    replace eq9 := sn _ _ eq9
    replace eq10 := sn _ _ eq10
    replace eq11 := sn _ _ eq11
    replace eq12 := sn _ _ eq12
    clear sn
    walk_at "rd"
    refine ⟨Nat.zero_le _, fun q14 hq14 => ?_⟩
    have sn := Same.upd (o := .tup []) hq14
    have eq14 : upd G13 q14 (.tup []) q14 = some (.tup []) := upd_same
    replace sA := sA.trans sn
    replace evt := sn _ _ evt
    replace evc := sn _ _ evc
    replace evi := sn _ _ evi
    replace eq1 := sn _ _ eq1
    replace eq2 := sn _ _ eq2
    replace eq3 := sn _ _ eq3
    replace eq4 := sn _ _ eq4
    replace eq5 := sn _ _ eq5
    replace eq6 := sn _ _ eq6
    replace eq7 := sn _ _ eq7
    replace eq8 := sn _ _ eq8
    replace eq9 := sn _ _ eq9
    replace eq10 := sn _ _ eq10
    replace eq11 := sn _ _ eq11
    replace eq12 := sn _ _ eq12
    replace eq13 := sn _ _ eq13
    generalize upd G13 q14 (.tup []) = G14 at sA eq14 evt evc evi eq1 eq2 eq3 eq4 eq5 eq6 eq7 eq8 eq9 eq10 eq11 eq12 eq13
    clear sn hq14
    walk_at "rd"
    refine ⟨by show 7 ≤ sizeLine; decide, fun q15 hq15 => ?_⟩
    have sn := Same.upd (o := .lst [V.non, V.ref q1, V.ref q4, V.ref q7, V.ref q10, V.ref q13, V.ref q14]) hq15
    have eq15 : upd G14 q15 (.lst [V.non, V.ref q1, V.ref q4, V.ref q7, V.ref q10, V.ref q13, V.ref q14]) q15 = some (.lst [V.non, V.ref q1, V.ref q4, V.ref q7, V.ref q10, V.ref q13, V.ref q14]) := upd_same
    replace sA := sA.trans sn
    replace evt := sn _ _ evt
    replace evc := sn _ _ evc
    replace evi := sn _ _ evi
    replace eq1 := sn _ _ eq1
    replace eq2 := sn _ _ eq2
    replace eq3 := sn _ _ eq3
    replace eq4 := sn _ _ eq4
    replace eq5 := sn _ _ eq5
    replace eq6 := sn _ _ eq6
    replace eq7 := sn _ _ eq7
    replace eq8 := sn _ _ eq8
    replace eq9 := sn _ _ eq9
    replace eq10 := sn _ _ eq10
    replace eq11 := sn _ _ eq11
    replace eq12 := sn _ _ eq12
    replace eq13 := sn _ _ eq13
    replace eq14 := sn _ _ eq14
    generalize upd G14 q15 (.lst [V.non, V.ref q1, V.ref q4, V.ref q7, V.ref q10, V.ref q13, V.ref q14]) = G15 at sA eq15 evt evc evi eq1 eq2 eq3 eq4 eq5 eq6 eq7 eq8 eq9 eq10 eq11 eq12 eq13 eq14
    clear sn hq15
    walk_at "rd"
    refine ⟨vt, 9, vals.map V.int, rfl, rfl, evt, by rw [hc]; simp, by decide, by decide, by rw [List.length_map]; omega, fun q16 hq16 => ?_⟩
    have e9 : (List.replicate 9 (vals.map V.int)).flatten = ((List.replicate 9 vals).flatten).map V.int := by rw [List.map_flatten, List.map_replicate]
    rw [e9] at *
    have l9 : ((List.replicate 9 vals).flatten).length = 9 * n := by simp [List.replicate, lv]; omega
    generalize (List.replicate 9 vals).flatten = nine at l9
    have sn := Same.upd (o := .tup (nine.map V.int)) hq16
    have eq16 : upd G15 q16 (.tup (nine.map V.int)) q16 = some (.tup (nine.map V.int)) := upd_same
    replace sA := sA.trans sn
    replace evt := sn _ _ evt
    replace evc := sn _ _ evc
    replace evi := sn _ _ evi
    replace eq1 := sn _ _ eq1
    replace eq2 := sn _ _ eq2
    replace eq3 := sn _ _ eq3
    replace eq4 := sn _ _ eq4
    replace eq5 := sn _ _ eq5
    replace eq6 := sn _ _ eq6
    replace eq7 := sn _ _ eq7
    replace eq8 := sn _ _ eq8
    replace eq9 := sn _ _ eq9
    replace eq10 := sn _ _ eq10
    replace eq11 := sn _ _ eq11
    replace eq12 := sn _ _ eq12
    replace eq13 := sn _ _ eq13
    replace eq14 := sn _ _ eq14
    replace eq15 := sn _ _ eq15
    generalize upd G15 q16 (.tup (nine.map V.int)) = G16 at sA eq16 evt evc evi eq1 eq2 eq3 eq4 eq5 eq6 eq7 eq8 eq9 eq10 eq11 eq12 eq13 eq14 eq15
    clear sn hq16
    walk_at "rd"
    refine ⟨by show 1 ≤ sizeLine; decide, fun q17 hq17 => ?_⟩
    have sn := Same.upd (o := .lst [V.ref q16]) hq17
    have eq17 : upd G16 q17 (.lst [V.ref q16]) q17 = some (.lst [V.ref q16]) := upd_same
    replace sA := sA.trans sn
    replace evt := sn _ _ evt
    replace evc := sn _ _ evc
    replace evi := sn _ _ evi
    replace eq1 := sn _ _ eq1
    replace eq2 := sn _ _ eq2
    replace eq3 := sn _ _ eq3
    replace eq4 := sn _ _ eq4
    replace eq5 := sn _ _ eq5
    replace eq6 := sn _ _ eq6
    replace eq7 := sn _ _ eq7
    replace eq8 := sn _ _ eq8
    replace eq9 := sn _ _ eq9
    replace eq10 := sn _ _ eq10
    replace eq11 := sn _ _ eq11
    replace eq12 := sn _ _ eq12
    replace eq13 := sn _ _ eq13
    replace eq14 := sn _ _ eq14
    replace eq15 := sn _ _ eq15
    replace eq16 := sn _ _ eq16
    generalize upd G16 q17 (.lst [V.ref q16]) = G17 at sA eq17 evt evc evi eq1 eq2 eq3 eq4 eq5 eq6 eq7 eq8 eq9 eq10 eq11 eq12 eq13 eq14 eq15 eq16
    clear sn hq17
    walk_at "rd"
    refine rd_cat eq15 eq17 (small_ln (by show 7 + 1 ≤ 1000; decide)) fun q18 hq18 => ?_
    have nq18 : q18 ≠ tw := fun z => by rw [z, sA _ _ ht3] at hq18; cases hq18
    generalize eW : [V.non, V.ref q1, V.ref q4, V.ref q7, V.ref q10, V.ref q13, V.ref q14] ++ [V.ref q16] = W8 at *
    have W88 : W8.length = 8 := by rw [← eW]; rfl
    have sn := Same.upd (o := .lst W8) hq18
    have eq18 : upd G17 q18 (.lst W8) q18 = some (.lst W8) := upd_same
    replace sA := sA.trans sn
    replace evt := sn _ _ evt
    replace evc := sn _ _ evc
    replace evi := sn _ _ evi
    replace eq1 := sn _ _ eq1
    replace eq2 := sn _ _ eq2
    replace eq3 := sn _ _ eq3
    replace eq4 := sn _ _ eq4
    replace eq5 := sn _ _ eq5
    replace eq6 := sn _ _ eq6
    replace eq7 := sn _ _ eq7
    replace eq8 := sn _ _ eq8
    replace eq9 := sn _ _ eq9
    replace eq10 := sn _ _ eq10
    replace eq11 := sn _ _ eq11
    replace eq12 := sn _ _ eq12
    replace eq13 := sn _ _ eq13
    replace eq14 := sn _ _ eq14
    replace eq15 := sn _ _ eq15
    replace eq16 := sn _ _ eq16
    replace eq17 := sn _ _ eq17
    generalize upd G17 q18 (.lst W8) = G18 at sA eq18 evt evc evi eq1 eq2 eq3 eq4 eq5 eq6 eq7 eq8 eq9 eq10 eq11 eq12 eq13 eq14 eq15 eq16 eq17
    clear sn hq18
    have ht13 := sA _ _ ht3
    walk_at "rd"
    refine ⟨a, ns, tw, ts3, q18, W8, rfl, hs3.same sA, ht13, by omega, eq18, nq18, by omega, fun wv HF ts9 s9 ht9 hl9 hv => ?_⟩
    have keep : ∀ c us, G18 c = some (.tup us) → HF c = some (.tup us) := fun c us e => s9 _ _ e (ne_of e ht13 (by intro z; cases z))
    have hxF : Is HF (.ref oa) (ordD n ps) := (hx3.same sA).tmono keep (noL_ordk _ _)
    have evF := keep _ _ evt
    have wrong : ∃ dw, Is HF wv dw ∧ FewN dw ∧ numsB dw 1 8 = false ∧ numsB dw (n : Int) (n : Int) = false := by
      rw [← eW] at hv
      simp only [List.mem_append, List.mem_cons, List.not_mem_nil, or_false] at hv
      rcases hv with (rfl | rfl | rfl | rfl | rfl | rfl | rfl) | rfl
      · exact ⟨_, .non, few_o (fun _ z => by cases z), rfl, rfl⟩
      · exact ⟨_, .lst (Rd.of (s9 _ _ eq1 nq1)) (IsAll.ints vals), few_o (fun _ z => by cases z), rfl, rfl⟩
      · exact ⟨_, .tup (keep _ _ eq4) ((IsAll.ints tl).append (.cons (.int (-1)) .nil)), few_n (by rw [List.length_append, List.length_map]; show tl.length + 1 ≤ 1000; omega), nums_last (by rfl), nums_last (by rfl)⟩
      · exact ⟨_, .tup (keep _ _ eq7) ((IsAll.ints tl).append (.cons (.int 10000) .nil)), few_n (by rw [List.length_append, List.length_map]; show tl.length + 1 ≤ 1000; omega), nums_last (by rfl), nums_last (by rfl)⟩
      · exact ⟨_, .tup (keep _ _ eq10) ((IsAll.ints ini).append (.cons (.bl true) .nil)), few_n (by rw [List.length_append, List.length_map]; show ini.length + 1 ≤ 1000; omega), nums_last (by rfl), nums_last (by rfl)⟩
      · exact ⟨_, .tup (keep _ _ eq13) ((IsAll.ints ini).append (.cons (.str _) .nil)), few_n (by rw [List.length_append, List.length_map]; show ini.length + 1 ≤ 1000; omega), nums_last (by rfl), nums_last (by rfl)⟩
      · exact ⟨.tuple ([] : List PyData), .tup (keep _ _ eq14) .nil, few_n (by show 0 ≤ 1000; decide), nums_len (.inl (by show (0 : Int) < 1; decide)), nums_len (.inl (by show (0 : Int) < (n : Int); omega))⟩
      · exact ⟨_, .tup (keep _ _ eq16) (IsAll.ints nine), few_n (by rw [List.length_map]; omega), nums_len (.inr (by rw [List.length_map]; omega)), nums_len (.inr (by rw [List.length_map]; omega))⟩
    obtain ⟨dw, hW, fw, nw1, nw2⟩ := wrong
    clear keep eW hv eq1 eq2 eq3 eq4 eq5 eq6 eq7 eq8 eq9 eq10 eq11 eq12 eq13 eq14 eq15 eq16 eq17 eq18 evt evc evi sA s9
    have sR := Same.refl HF
    walk_at "rd"
    refine ⟨_, _, _, _, rfl, .nu12 (.int st) (hW.same sR) fw (step_ok st1 st9) nw1 (fun r He1 se1 ir => ?_)⟩
    walk_at "rd"
    refine ⟨by show 2 ≤ sizeLine; decide, fun pe hpe => ?_⟩
    have ue := sR.trans (se1.trans (Same.upd (o := .tup [V.str "refused", V.int 1]) hpe))
    refine rd_eqD (e := refD 1) (ir.same (Same.upd hpe)) (.tup upd_same (.cons (.str _) (.cons (.int _) .nil))) (ok_ref 1) (ok_ref 1) ?_
    rw [eqv_ref, decide_eq_true rfl]
    generalize upd He1 pe (.tup [V.str "refused", V.int 1]) = Ce at ue
    clear sR ir hpe se1
    have sR := ue
    clear ue
    walk_at "rd"
    refine ifF rfl ?_
    walk_at "rd"
    refine ⟨_, _, _, _, rfl, .nu9 (hxF.same sR) ho (.int st) (hW.same sR) fw (step_ok st1 st9) nw2 (fun r Hf1 sf1 ir => ?_)⟩
    walk_at "rd"
    refine ⟨by show 2 ≤ sizeLine; decide, fun pf hpf => ?_⟩
    have uf := sR.trans (sf1.trans (Same.upd (o := .tup [V.str "refused", V.int 1]) hpf))
    refine rd_eqD (e := refD 1) (ir.same (Same.upd hpf)) (.tup upd_same (.cons (.str _) (.cons (.int _) .nil))) (ok_ref 1) (ok_ref 1) ?_
    rw [eqv_ref, decide_eq_true rfl]
    generalize upd Hf1 pf (.tup [V.str "refused", V.int 1]) = Cf at uf
    clear sR ir hpf sf1
    have sR := uf
    clear uf
    walk_at "rd"
    refine ifF rfl ?_
    have evG := sR _ _ evF
    walk_at "rd"
    refine ⟨by show 1 ≤ sizeLine; decide, fun q20 hq20 => ?_⟩
    have u20 := Same.upd (o := .tup [V.int 0]) hq20
    walk_at "rd"
    refine rd_catU (u20 _ _ evG) upd_same (small_ln (by rw [List.length_map]; show vals.length + 1 ≤ 1000; omega)) fun q21 HG s21 e21 => ?_
    have sG := (sR.trans u20).trans s21
    walk_at "rd"
    refine ⟨_, _, _, _, rfl, .nu9 (hxF.same sG) ho (.int st) (.tup e21 ((IsAll.ints vals).append (.cons (.int 0) .nil))) (few_n (by rw [List.length_append, List.length_map]; show vals.length + 1 ≤ 1000; omega)) (step_ok st1 st9) (nums_len (.inr (by rw [List.length_append, List.length_map, lv]; show (n : Int) < ((n + 1 : Nat) : Int); omega))) (fun r HH sH ir => ?_)⟩
    walk_at "rd"
    refine ⟨by show 2 ≤ sizeLine; decide, fun p hp => ?_⟩
    refine rd_eqD (e := refD 1) (ir.same (Same.upd hp)) (.tup upd_same (.cons (.str _) (.cons (.int _) .nil))) (ok_ref 1) (ok_ref 1) ?_
    rw [eqv_ref, decide_eq_true rfl]
    exact q _
end
end My


set_option Elab.async false
set_option linter.all false
set_option maxRecDepth 100000
set_option maxHeartbeats 4000000
namespace My
open PySem L2
theorem okDs_mem {ds : List PyData} (h : okDs ds) {d : PyData} (hd : d ∈ ds) : okD d := by
  induction ds with
  | nil => cases hd
  | cons e es ih =>
    obtain ⟨h1, h2⟩ := h
    rw [PyData.canLayAll0, Bool.and_eq_true] at h1
    rw [PyData.depthAll] at h2
    rcases List.mem_cons.mp hd with rfl | hd
    · exact ⟨h1.1, Nat.le_trans (Nat.le_max_left _ _) h2⟩
    · exact ih ⟨h1.2, Nat.le_trans (Nat.le_max_right _ _) h2⟩ hd
theorem okD_tup {ds : List PyData} (h : okD (.tuple ds)) : okDs ds := by
  obtain ⟨h1, h2⟩ := h
  rw [PyData.canLay0] at h1
  rw [PyData.depth] at h2
  exact ⟨h1, by omega⟩
/-- in a row, by two neighbours -/
theorem rising_zip : ∀ ps : List (Int × Int), risingB ps = ((List.range (ps.drop 1).length).map fun i => HT.lexLt [(ps.getD i (0, 0)).1, (ps.getD i (0, 0)).2] [(ps.getD (i + 1) (0, 0)).1, (ps.getD (i + 1) (0, 0)).2]).all id := by
  intro ps
  rw [rising_range, List.length_drop]
theorem drop_get {α : Type} {xs : List α} {i : Nat} {y : α} (h : (xs.drop 1)[i]? = some y) : xs[i + 1]? = some y := by
  rw [List.getElem?_drop, Nat.add_comm] at h
  exact h
section
variable {P : Program} {w : World} {K : PySem.W.Frag} {mg : Str → Option Value} {base : Heap} {t : Ad}
noncomputable def okLio (d : PyData) : Prop := okD d ∧ okOrd d
set_option genSizeOf false in
set_option genInjectivity false in
inductive sp_lio (vs : List V) (H : Hp) (Q : VK) (zz3 : XK) : Prop where
  | mk (x : V) (d : PyData) (zh0 : vs = [x]) (zh1 : Is H x d) (zh2 : okLio d) (zh3 : ∀ H', Same H H' → Q (.bl (orderB d)) H') : sp_lio  vs H Q zz3
theorem cut_one (xs : List V) : cutV xs (some 1) none = xs.drop 1 := by
  unfold cutV
  rw [HT.sIx_none]
  have e1 : HT.sIx xs.length 0 (some 1) = min 1 xs.length := by
    have := HT.sIx_nat xs.length 0 1
    rw [show ((1 : Nat) : Int) = 1 from rfl] at this
    rw [this]
  rw [e1]
  cases xs with
  | nil => rfl
  | cons x xs => simp
theorem ok__law_is_order (T : Txt K mg t) : FnOk P w K mg base CX0 2 t.a__law_is_order t.d__law_is_order ["_law_thing"] sp_lio := by
  refine T.F__law_is_order.ok sc__law_is_order (fun vs H Q E h => ?_) (fun cdv A outer s H vs Q E hr h => ?_)
  · obtain ⟨x, d, rfl, _⟩ := h
    rfl
  · obtain ⟨x, d, rfl, hx, ⟨hod, hok⟩, q⟩ := h
    refine ⟨_, (pss_cons (ps_if (PW.pt (pw_or (pt_not (pt_val (pe_callB c_isinst (by rfl) T.n_isinstance bt_isinstance (pa_cons (pv 0) (pa_cons (pe_bltn (v := .ty "tuple") rfl T.n_tuple bt_tuple rfl) pa_nil))))) (pw_or (pt_cmpR (op_neD hr.units) (pe_callB (k_len K) (by rfl) T.n_len bt_len (pa_cons (pv 0) pa_nil)) pe_int (nomark _)) (pw_or1 (pt_not (pt_val (pe_call (ok__law_whole T) (hr.mono (by decide)) rfl T.m__law_whole T.F__law_whole.kp T.b__law_whole .nil pass0 (pa_cons (pe_ix (k_ix K) (pv 0) pe_int (fun _ _ => rfl)) (pa_cons pe_int (pa_cons pe_int pa_nil)))))))))) (pss_one (ps_ret pe_bl)) pss_nil)
      (pss_cons (ps_if (pt_not (pt_val (pe_callB c_isinst (by rfl) T.n_isinstance bt_isinstance (pa_cons (pe_ix (k_ix K) (pv 0) pe_int (fun _ _ => rfl)) (pa_cons (pe_bltn (v := .ty "tuple") rfl T.n_tuple bt_tuple rfl) pa_nil))))) (pss_one (ps_ret pe_bl)) pss_nil)
      (pss_cons (ps_for PassesOwn.never rfl (k_ptup K (pe_ix (k_ix K) (pv 0) pe_int (fun _ _ => rfl))) (pg_name (i := 1) sc__law_is_order.nd rfl (Or.inl rfl)) (pss_cons (ps_if (PW.pt (pw_or (pt_not (pt_val (pe_callB c_isinst (by rfl) T.n_isinstance bt_isinstance (pa_cons (pv 1) (pa_cons (pe_bltn (v := .ty "tuple") rfl T.n_tuple bt_tuple rfl) pa_nil))))) (pw_or (pt_cmpR (op_neD hr.units) (pe_callB (k_len K) (by rfl) T.n_len bt_len (pa_cons (pv 1) pa_nil)) pe_int (nomark _)) (pw_or1 (pt_cmpR (op_eqD hr.units) (pe_ix (k_ix K) (pv 1) pe_int (fun _ _ => rfl)) (pe_ix (k_ix K) (pv 1) pe_int (fun _ _ => rfl)) (nomark _)))))) (pss_one (ps_ret pe_bl)) pss_nil)
      (pss_one (ps_if (pt_not (pt_val (pe_callB (k_all K) (by rfl) T.n_all bt_all (pa_cons (pe_lc rfl ⟨True.intro, True.intro, True.intro, (.inl rfl), True.intro⟩ (M := ["_law_one", "_law_thing"]) (.own (.free 0 rfl rfl .nil)) (gk_name rfl) rfl (by decide +kernel) (k_ptup K (pv 1)) (fun C fp s1 H1 => ⟨pg_name (i := 0) (show (["_law_one", "_law_thing"] : List Str).Nodup by decide +kernel) rfl (Or.inl rfl), pif_nil, (pe_call (ok__law_whole T) (hr.mono (by decide)) rfl T.m__law_whole T.F__law_whole.kp T.b__law_whole .nil pass0 (pa_cons (pv 0) (pa_cons pe_int (pa_cons (pe_op op_sub (pe_ix (k_ix K) (pv 1) pe_int (fun _ _ => rfl)) pe_int) pa_nil))))⟩)) pa_nil)))) (pss_one (ps_ret pe_bl)) pss_nil))))
      (pss_one (ps_ret (pe_callB (k_all K) (by rfl) T.n_all bt_all (pa_cons (pe_lc rfl ⟨True.intro, True.intro, True.intro, True.intro⟩ (M := ["_law_one", "_law_other"]) (.own (.own .nil)) (gk_tup (gks_cons rfl (gks_cons rfl gks_nil))) rfl (by decide +kernel) (k_pzipT K rfl T.n_zip (pa_cons (pe_ix (k_ix K) (pv 0) pe_int (fun _ _ => rfl)) (pa_cons (pe_slice (k_slW K) (pe_ix (k_ix K) (pv 0) pe_int (fun _ _ => rfl)) (po_some pe_int) po_none) pa_nil))) (fun C fp s1 H1 => ⟨k_gtup K (n := 2) rfl (pgs_cons (pg_name (i := 0) (show (["_law_one", "_law_other"] : List Str).Nodup by decide +kernel) rfl (Or.inl rfl)) (pgs_cons (pg_name (i := 1) (show (["_law_one", "_law_other"] : List Str).Nodup by decide +kernel) rfl (Or.inl rfl)) pgs_nil)), pif_nil, (pe_cmpR (k_ltT K hr.units0) (pv 0) (pv 1) (nomark _))⟩)) pa_nil))))))), ?_⟩
    walk_at "rd"
    by_cases hd : ∃ ds, d = .tuple ds
    · obtain ⟨ds, rfl⟩ := hd
      cases hx with
      | @tup a xs _ e hxs =>
      walk_at "rd"
      have hl := hxs.length
      refine ifB (fun h => ?_) (fun h => ?_)
      · walk_at "rd"
        have q' := q H (Same.refl H)
        rw [order_other] at q'
        · exact q'
        · rintro n ds ⟨⟩
          simp at hl
          simp [hl] at h
      · walk_at "rd"
        match xs, ds, hxs, hl with
        | [x1, x2], [d1, d2], .cons i1 (.cons i2 .nil), _ =>
          walk_at "rd"
          refine ⟨_, _, _, _, rfl, i1, ?_⟩
          walk_at "rd"
          refine ifB (fun h1 => ?_) (fun h1 => ?_)
          · walk_at "rd"
            have h1' : wholeB d1 1 8 = false := by simpa using h1
            have q' := q H (Same.refl H)
            by_cases h0 : ∃ n ds, d1 = .int n ∧ d2 = .tuple ds
            · obtain ⟨n, ds, rfl, rfl⟩ := h0
              have : orderB (.tuple [.int n, .tuple ds]) = (decide (1 ≤ n) && decide (n ≤ 8) && ds.all (fun d => pairB d n) && risingB (ds.map decP)) := rfl
              rw [this, show (decide (1 ≤ n) && decide (n ≤ 8)) = false from h1'] at q'
              exact q'
            · rw [order_other (by rintro n ds ⟨⟩; exact h0 ⟨_, _, rfl, rfl⟩)] at q'
              exact q'
          · have h1' : wholeB d1 1 8 = true := by simpa using h1
            obtain ⟨n, rfl, hn1, hn8⟩ := wholeB_int h1'
            walk_at "rd"
            by_cases hd2 : ∃ ds, d2 = .tuple ds
            · obtain ⟨ds, rfl⟩ := hd2
              have hlen := hok _ _ rfl
              have hods : okDs ds := okD_tup (okDs_mem (okD_tup hod) (by simp))
              cases i1 with
              | int _ =>
              cases i2 with
              | @tup b ys _ eb hys =>
              have hlb := hys.length
              have qe : orderB (.tuple [.int n, .tuple ds]) = (decide (1 ≤ n) && decide (n ≤ 8) && ds.all (fun d => pairB d n) && risingB (ds.map decP)) := rfl
              rw [qe, decide_eq_true hn1, decide_eq_true hn8] at q
              have qno : ∀ dd ∈ ds, pairB dd n = false → ∀ H', Same H H' → Q (.bl false) H' := fun dd hm hp H' s' => by
                have : ds.all (fun d => pairB d n) = false := by
                  rw [List.all_eq_false]
                  exact ⟨dd, hm, by rw [hp]; exact Bool.false_ne_true⟩
                have q' := q H' s'
                rw [this] at q'
                exact q'
              walk_at "rd"
              refine ⟨b, rfl, ⟨ys, SqT.of eb⟩, ?_⟩
              refine fp_tup (K := K) (xs := ys) (fun i σ H' => (∃ v1, σ = [some (.ref a), v1]) ∧ Same H H' ∧ ∀ dd ∈ ds.take i, pairB dd n = true) ⟨⟨_, rfl⟩, Same.refl _, fun dd h => by cases h⟩ (fun i σ H' _ h => SqT.of (h.2.1 _ _ eb)) ?_ ?_
              · rintro i y σ H1 hy ⟨⟨v1, rfl⟩, s1, hall⟩
                obtain ⟨dd, ed, iy⟩ := hys.get' hy
                have hm : dd ∈ ds := List.mem_of_getElem? ed
                have iy1 := iy.same s1
                have e1 := s1 _ _ e
                walk_at "rd"
                by_cases hdd : ∃ es, dd = .tuple es
                · obtain ⟨es, rfl⟩ := hdd
                  cases iy1 with
                  | @tup c zs _ ec hzs =>
                  have hlz := hzs.length
                  walk_at "rd"
                  refine ifB (fun h2 => ?_) (fun h2 => ?_)
                  · walk_at "rd"
                    refine qno _ hm (pair_other ?_) _ s1
                    rintro u v ⟨⟩
                    simp at hlz
                    simp [hlz] at h2
                  · walk_at "rd"
                    match zs, es, hzs, hlz, hm with
                    | [z1, z2], [g1, g2], .cons j1 (.cons j2 .nil), _, hm =>
                      have og := okD_tup (okDs_mem hods hm)
                      walk_at "rd"
                      refine rd_eqD j1 j2 (okDs_mem og (by simp)) (okDs_mem og (by simp)) ?_
                      walk_at "rd"
                      refine ifB (fun h3 => ?_) (fun h3 => ?_)
                      · walk_at "rd"
                        refine qno _ hm ?_ _ s1
                        show (wholeB g1 0 (n - 1) && wholeB g2 0 (n - 1) && !PyData.eqv g1 g2) = false
                        rw [show PyData.eqv g1 g2 = true from h3, Bool.not_true, Bool.and_false]
                      · walk_at "rd"
                        refine ⟨c, rfl, ⟨_, SqT.of ec⟩, ?_⟩
                        refine lp_tup (K := K) (xs := [z1, z2]) (small_ln (by show 2 ≤ 1000; decide)) (fun i us H' => H' = H1 ∧ us = (([g1, g2].take i).map fun d => wholeB d 0 (n - 1)).map V.bl) ⟨rfl, rfl⟩ (by rintro i ys H' ⟨_, rfl⟩; simp; omega) (fun i zs H' _ h => by rw [h.1]; exact SqT.of ec) ?_ ?_
                        · rintro j u us H2 hu ⟨rfl, rfl⟩
                          obtain ⟨d5, ed5, id5⟩ := (IsAll.cons j1 (.cons j2 .nil)).get' hu
                          walk_at "rd"
                          refine ⟨_, d5, _, _, rfl, id5, rfl, ?_⟩
                          rw [List.take_add_one, ed5, List.map_append, List.map_append]
                          rfl
                        · rintro us H2 ⟨rfl, rfl⟩ p hp
                          walk_at "rd"
                          refine rd_all upd_same ?_
                          rw [show (([g1, g2].take [z1, z2].length).map fun d => wholeB d 0 (n - 1)).all id = (wholeB g1 0 (n - 1) && wholeB g2 0 (n - 1)) by simp]
                          have s2 := s1.trans (Same.upd (o := .lst ((([g1, g2].take [z1, z2].length).map fun d => wholeB d 0 (n - 1)).map V.bl)) hp)
                          walk_at "rd"
                          have h3' : PyData.eqv g1 g2 = false := h3
                          have pe : pairB (.tuple [g1, g2]) n = (wholeB g1 0 (n - 1) && wholeB g2 0 (n - 1) && !PyData.eqv g1 g2) := rfl
                          rw [h3', Bool.not_false, Bool.and_true] at pe
                          refine ifB (fun h4 => ?_) (fun h4 => ?_)
                          · walk_at "rd"
                            refine qno _ hm ?_ _ s2
                            rw [pe]
                            have h4' : (!(wholeB g1 0 (n - 1) && wholeB g2 0 (n - 1))) = true := h4
                            cases hw : (wholeB g1 0 (n - 1) && wholeB g2 0 (n - 1)) with
                            | false => rfl
                            | true => rw [hw] at h4'; cases h4'
                          · walk_at "rd"
                            refine ⟨⟨_, rfl⟩, s2, fun d6 h6 => ?_⟩
                            rw [List.take_add_one, ed] at h6
                            rcases List.mem_append.mp h6 with h6 | h6
                            · exact hall d6 h6
                            · have : d6 = .tuple [g1, g2] := by simpa using h6
                              rw [this, pe]
                              simpa using h4
                    | [], _, _, _, _ => simp at h2
                    | [_], _, _, _, _ => simp at h2
                    | _ :: _ :: _ :: _, _, _, _, _ => simp at h2; omega
                · have hdd' : ∀ es, dd ≠ .tuple es := fun es e => hdd ⟨es, e⟩
                  rw [isTup_no hdd']
                  walk_at "rd"
                  exact qno _ hm (pair_other fun u v => hdd' _) _ s1
              · rintro σ H1 ⟨⟨v1, rfl⟩, s1, hall⟩
                rw [hlb, List.take_length] at hall
                have h3' : ds.all (fun d => pairB d n) = true := List.all_eq_true.mpr hall
                have ed := pairs_dec h3'
                rw [h3'] at q
                generalize hps : ds.map decP = ps at ed q
                subst ed
                have lps : ps.length ≤ 1000 := by rw [List.length_map] at hlen; exact hlen
                have ly : ys.length = ps.length := by rw [hlb, List.length_map]
                have e1 := s1 _ _ e
                have eb1 := s1 _ _ eb
                have hys1 := hys.same s1
                walk_at "rd"
                refine rd_zipT ?_
                walk_at "rd"
                refine rd_sl ?_
                walk_at "rd"
                refine rd_part ?_
                walk_at "rd"
                refine ⟨1, rfl, ?_⟩
                refine rd_noP ?_
                refine rd_slW (K := K) eb1 fun b2 H2 s2 eb2 => ?_
                rw [cut_one] at eb2
                have s12 := s1.trans s2
                have eb12 := s2 _ _ eb1
                have hys2 := hys1.same s2
                walk_at "rd"
                refine ⟨b, b2, rfl, ⟨_, SqT.of eb12⟩, ⟨_, SqT.of eb2⟩, ?_⟩
                have ld : (ys.drop 1).length = (ps.drop 1).length := by rw [List.length_drop, List.length_drop, ly]
                refine lp_zipT (K := K) (xs := ys) (ys := ys.drop 1) (small_ln (by rw [List.length_drop]; omega)) (by rw [List.length_drop]; omega) (fun i us H' => Same H2 H' ∧ us = ((List.range i).map fun i => HT.lexLt [(ps.getD i (0, 0)).1, (ps.getD i (0, 0)).2] [(ps.getD (i + 1) (0, 0)).1, (ps.getD (i + 1) (0, 0)).2]).map V.bl) ⟨Same.refl _, rfl⟩ (by rintro i us H' ⟨_, rfl⟩; simp) (fun i us H' _ h => ⟨SqT.of (h.1 _ _ eb12), SqT.of (h.1 _ _ eb2)⟩) ?_ ?_
                · rintro i u v us H3 Tp hu hv ⟨s3, rfl⟩ hT
                  have hv' := drop_get hv
                  have li : i + 1 < ps.length := by rw [← ly]; exact (List.getElem?_eq_some_iff.mp hv').1
                  have hys3 := hys2.same s3
                  obtain ⟨r1, f1, g1⟩ := pr_at hys3 (i := i) (by omega)
                  obtain ⟨r2, f2, g2⟩ := pr_at hys3 (i := i + 1) (by omega)
                  rw [hu] at f1
                  rw [hv'] at f2
                  cases f1
                  cases f2
                  have s4 := Same.upd (o := .tup [V.ref r1, V.ref r2]) hT
                  walk_at "rd"
                  refine ⟨Tp, _, rfl, SqT.of upd_same, rfl, ?_⟩
                  walk_at "rd"
                  refine rd_ltT (s4 _ _ g1) (s4 _ _ g2) ⟨s3.trans s4, ?_⟩
                  rw [List.range_succ, List.map_append, List.map_append]
                  rfl
                · rintro us H3 ⟨s3, rfl⟩ p hp
                  walk_at "rd"
                  refine rd_all upd_same ?_
                  rw [ld, ← rising_zip]
                  exact q _ ((s12.trans s3).trans (Same.upd hp))
            · have hd2' : ∀ ds, d2 ≠ .tuple ds := fun ds e => hd2 ⟨ds, e⟩
              rw [isTup_no hd2']
              walk_at "rd"
              have q' := q H (Same.refl H)
              rw [order_other (by rintro n ds ⟨⟩; exact hd2' _ rfl)] at q'
              exact q'
        | [], _, _, _ => simp at h
        | [_], _, _, _ => simp at h
        | _ :: _ :: _ :: _, _, _, _ => simp at h; omega
    · have hd' : ∀ ds, d ≠ .tuple ds := fun ds e => hd ⟨ds, e⟩
      rw [isTup_no hd']
      walk_at "rd"
      have q' := q H (Same.refl H)
      rw [order_other fun n ds => hd' _] at q'
      exact q'
end
end My


set_option Elab.async false
set_option linter.all false
set_option maxRecDepth 100000
set_option maxHeartbeats 4000000
namespace My
open PySem L2
noncomputable def Sc : PyData → Prop
  | .none | .bool _ | .int _ => True
  | .str x => PyData.strOk x = true
  | _ => False
noncomputable def Bn (m : Nat) : Nat → PyData → Prop
  | 0, d => Sc d
  | k + 1, d => Sc d ∨ ∃ ds, (d = .tuple ds ∨ d = .list ds) ∧ ds.length ≤ m ∧ ∀ e ∈ ds, Bn m k e
theorem Bn.sc {m : Nat} : ∀ {k : Nat} {d : PyData}, Sc d → Bn m k d
  | 0, _, h => h
  | _ + 1, _, h => .inl h
theorem Bn.mono {m m' : Nat} (hm : m ≤ m') : ∀ {k k' : Nat} {d : PyData}, k ≤ k' → Bn m k d → Bn m' k' d
  | 0, _, _, _, h => Bn.sc h
  | k + 1, 0, _, g, _ => absurd g (Nat.not_succ_le_zero _)
  | k + 1, k' + 1, d, g, h => by
    rcases h with h | ⟨ds, e, l, a⟩
    · exact .inl h
    · exact .inr ⟨ds, e, Nat.le_trans l hm, fun x hx => Bn.mono hm (Nat.le_of_succ_le_succ g) (a x hx)⟩
theorem sc_ok {d : PyData} (h : Sc d) : d.canLay0 = true ∧ d.depth = 0 := by
  cases d with
  | none => exact ⟨rfl, rfl⟩
  | bool b => exact ⟨rfl, rfl⟩
  | int i => exact ⟨rfl, rfl⟩
  | str x => exact ⟨h, rfl⟩
  | list _ => exact absurd h (by intro z; exact z)
  | tuple _ => exact absurd h (by intro z; exact z)
  | dict _ => exact absurd h (by intro z; exact z)
theorem all_lay {k : Nat} : ∀ {ds : List PyData}, (∀ e ∈ ds, e.canLay0 = true ∧ e.depth ≤ k) → PyData.canLayAll0 ds = true ∧ PyData.depthAll ds ≤ k
  | [], _ => ⟨rfl, Nat.zero_le _⟩
  | d :: ds, h => by
    obtain ⟨a, b⟩ := all_lay (ds := ds) fun e he => h e (List.mem_cons_of_mem _ he)
    obtain ⟨c, e⟩ := h d List.mem_cons_self
    rw [PyData.canLayAll0, PyData.depthAll, a, c]
    exact ⟨rfl, Nat.max_le.mpr ⟨e, b⟩⟩
theorem Bn.lay {m : Nat} : ∀ {k : Nat} {d : PyData}, Bn m k d → d.canLay0 = true ∧ d.depth ≤ k
  | 0, _, h => let ⟨a, b⟩ := sc_ok h; ⟨a, Nat.le_of_eq b⟩
  | k + 1, d, h => by
    rcases h with h | ⟨ds, e, l, a⟩
    · obtain ⟨a, b⟩ := sc_ok h
      exact ⟨a, by rw [b]; exact Nat.zero_le _⟩
    · obtain ⟨x, y⟩ := all_lay fun e he => Bn.lay (a e he)
      rcases e with rfl | rfl
      · rw [PyData.canLay0, PyData.depth]
        exact ⟨x, Nat.succ_le_succ y⟩
      · rw [PyData.canLay0, PyData.depth]
        exact ⟨x, Nat.succ_le_succ y⟩
theorem Bn.ok {m k : Nat} {d : PyData} (h : Bn m k d) (hk : k ≤ 40) : okD d := let ⟨a, b⟩ := h.lay; ⟨a, Nat.le_trans b hk⟩
noncomputable def cut (tw : Addr) (H : Hp) : Hp := fun b => if b = tw then none else H b
theorem cut_sub {tw : Addr} {H : Hp} : Same (cut tw H) H := fun b u e => by
  unfold cut at e
  split at e
  · cases e
  · exact e
theorem cut_same {tw : Addr} {H H' : Hp} (s : SameT tw H H') : Same (cut tw H) (cut tw H') := fun b u e => by
  unfold cut at e ⊢
  split at e
  · cases e
  · rename_i h
    rw [if_neg h]
    exact s b u e h
theorem cut_at {tw b : Addr} {H : Hp} {u : HO} (h : b ≠ tw) (e : H b = some u) : cut tw H b = some u := by
  unfold cut
  rw [if_neg h]
  exact e
/-- a thing that no draw changes, of such a width and depth -/
noncomputable def Good (tw : Addr) (H : Hp) (m k : Nat) (x : V) : Prop := ∃ d, Is (cut tw H) x d ∧ Bn m k d
theorem Good.t {tw : Addr} {H H' : Hp} {m k : Nat} {x : V} (h : Good tw H m k x) (s : SameT tw H H') : Good tw H' m k x := let ⟨d, a, b⟩ := h; ⟨d, a.same (cut_same s), b⟩
theorem Good.same {tw : Addr} {H H' : Hp} {m k : Nat} {x : V} (h : Good tw H m k x) (s : Same H H') : Good tw H' m k x := h.t s.t
theorem Good.mono {tw : Addr} {H : Hp} {m k m' k' : Nat} {x : V} (h : Good tw H m k x) (hm : m ≤ m') (hk : k ≤ k') : Good tw H m' k' x := let ⟨d, a, b⟩ := h; ⟨d, a, b.mono hm hk⟩
theorem good_all {tw : Addr} {H : Hp} {m k : Nat} : ∀ {xs : List V}, (∀ v ∈ xs, Good tw H m k v) → ∃ ds, IsAll (cut tw H) xs ds ∧ (∀ e ∈ ds, Bn m k e) ∧ ds.length = xs.length
  | [], _ => ⟨[], .nil, fun e h => (by cases h), rfl⟩
  | x :: xs, h => by
    obtain ⟨d, a, b⟩ := h x List.mem_cons_self
    obtain ⟨ds, c, e, l⟩ := good_all fun v hv => h v (List.mem_cons_of_mem _ hv)
    refine ⟨d :: ds, .cons a c, fun y hy => ?_, by rw [List.length_cons, List.length_cons, l]⟩
    rcases List.mem_cons.mp hy with rfl | hy
    · exact b
    · exact e y hy
theorem good_tup {tw p : Addr} {H : Hp} {m k : Nat} {ts xs : List V} (ht : H tw = some (.lst ts)) (e : H p = some (.tup xs)) (l : xs.length ≤ m) (h : ∀ v ∈ xs, Good tw H m k v) : Good tw H m (k + 1) (.ref p) := by
  obtain ⟨ds, a, b, c⟩ := good_all h
  exact ⟨_, .tup (cut_at (ne_of e ht (by intro z; cases z)) e) a, .inr ⟨ds, .inl rfl, by omega, b⟩⟩
theorem good_lst {tw p : Addr} {H : Hp} {m k : Nat} {xs : List V} (n : p ≠ tw) (e : H p = some (.lst xs)) (l : xs.length ≤ m) (h : ∀ v ∈ xs, Good tw H m k v) : Good tw H m (k + 1) (.ref p) := by
  obtain ⟨ds, a, b, c⟩ := good_all h
  exact ⟨_, .lst (.inl (cut_at n e)) a, .inr ⟨ds, .inr rfl, by omega, b⟩⟩
theorem two_good {tw : Addr} {H : Hp} {m k : Nat} (i j : Int) : ∀ v ∈ [V.int i, V.int j], Good tw H m k v := by
  intro v hv
  simp only [List.mem_cons, List.not_mem_nil, or_false] at hv
  rcases hv with rfl | rfl
  · exact ⟨_, .int _, Bn.sc True.intro⟩
  · exact ⟨_, .int _, Bn.sc True.intro⟩
/-- a good tuple's own parts -/
theorem good_parts {tw : Addr} {H : Hp} {m j : Nat} {x : V} {ds : List PyData} (i : Is (cut tw H) x (.tuple ds)) (b : Bn m j (.tuple ds)) : ∃ p xs j', x = .ref p ∧ H p = some (.tup xs) ∧ j = j' + 1 ∧ xs.length ≤ m ∧ xs.length = ds.length ∧ ∀ v ∈ xs, Good tw H m j' v := by
  cases i with
  | @tup p xs _ e h =>
  cases j with
  | zero => exact absurd b (by intro z; exact z)
  | succ j' =>
  rcases b with b | ⟨es, e1, l, a⟩
  · exact absurd b (by intro z; exact z)
  · have : es = ds := by
      rcases e1 with e1 | e1
      · injection e1 with e1; exact e1.symm
      · cases e1
    subst this
    have hl := h.length
    refine ⟨p, xs, j', rfl, cut_sub _ _ e, rfl, by omega, hl, fun v hv => ?_⟩
    obtain ⟨i, hi, e2⟩ := List.mem_iff_getElem.mp hv
    obtain ⟨d, ed, id⟩ := h.get' (i := i) (by rw [List.getElem?_eq_getElem hi, e2])
    exact ⟨d, id, a d (List.mem_of_getElem? ed)⟩
theorem mem_cutV {xs : List V} {lo hi : Option Int} {v : V} (h : v ∈ cutV xs lo hi) : v ∈ xs := by
  unfold cutV at h
  exact List.mem_of_mem_drop (List.mem_of_mem_take h)
section
variable {P : Program} {w : World} {K : PySem.W.Frag} {mg : Str → Option Value} {base : Heap} {t : Ad}
set_option genSizeOf false in
set_option genInjectivity false in
inductive sp_spoilt (K : PySem.W.Frag) (k : Nat) (vs : List V) (H : Hp) (Q : VK) (zz3 : XK) : Prop where
  | mk (a : Addr) (ns : List Int) (tw : Addr) (ts : List V) (x : V) (m : Nat) (j : Nat) (zh0 : vs = [.ref a, .ref tw, x]) (zh1 : Scr K H a ns) (zh2 : H tw = some (.lst ts)) (zh3 : ts.length + 2 * k ≤ 300) (zh4 : j < k) (zh5 : k ≤ 20) (zh6 : Good tw H m j x) (zh7 : 1 ≤ m) (zh8 : m ≤ 200) (zh9 : ∀ x' H' ts', SameT tw H H' → H' tw = some (.lst ts') → ts'.length ≤ ts.length + 2 * k → Good tw H' (2 * m + 1) (j + 1) x' → Q x' H') : sp_spoilt K k vs H Q zz3
theorem spoilt_step (T : Txt K mg t) (k : Nat) (ih : FnOk P w K mg base CX0 (k + 5) t.a__law_spoilt t.d__law_spoilt ["_law_script", "_law_town", "_law_thing"] (sp_spoilt K k)) : FnOk P w K mg base CX0 (k + 6) t.a__law_spoilt t.d__law_spoilt ["_law_script", "_law_town", "_law_thing"] (sp_spoilt K (k + 1)) := by
  refine T.F__law_spoilt.ok sc__law_spoilt (fun vs H Q E h => ?_) (fun cdv A outer s H vs Q E hr h => ?_)
  · obtain ⟨a, ns, tw, ts, x, m, j, rfl, _⟩ := h
    rfl
  · obtain ⟨a, ns, tw, ts, x, m, j, rfl, hs, ht, hl, hj, hk, ⟨d, hx, hb⟩, m1, m2, q⟩ := h
    refine ⟨_, (pss_cons (ps_set (i := 3) sc__law_spoilt.nd rfl (Or.inl rfl) (pe_call (ok__law_draw T) (hr.mono (by omega)) rfl T.m__law_draw T.F__law_draw.kp T.b__law_draw .nil pass0 (pa_cons (pv 0) (pa_cons (pv 1) (pa_cons pe_int pa_nil)))))
      (pss_cons (ps_if (PW.pt (pw_and (pt_val (pe_callB c_isinst (by rfl) T.n_isinstance bt_isinstance (pa_cons (pv 2) (pa_cons (pe_bltn (v := .ty "tuple") rfl T.n_tuple bt_tuple rfl) pa_nil)))) (pw_and (pt_cmpR (op_neD hr.units) (pv 2) (pe_tup pa_nil) (nomark _)) (pw_and1 (pt_cmpR (op_gt) (pv 3) pe_int (nomark _)))))) (pss_cons (ps_set (i := 4) sc__law_spoilt.nd rfl (Or.inl rfl) (pe_call (ok__law_draw T) (hr.mono (by omega)) rfl T.m__law_draw T.F__law_draw.kp T.b__law_draw .nil pass0 (pa_cons (pv 0) (pa_cons (pv 1) (pa_cons (pe_callB (k_len K) (by rfl) T.n_len bt_len (pa_cons (pv 2) pa_nil)) pa_nil)))))
      (pss_one (ps_ret (pe_op op_catU (pe_op op_catU (pe_slice (k_slW K) (pv 2) po_none (po_some (pv 4))) (pe_tup (pa_cons (pe_call ih (hr.mono (by omega)) rfl T.m__law_spoilt T.F__law_spoilt.kp T.b__law_spoilt .nil pass0 (pa_cons (pv 0) (pa_cons (pv 1) (pa_cons (pe_ix (k_ix K) (pv 2) (pv 4) (fun _ _ => rfl)) pa_nil)))) pa_nil))) (pe_slice (k_slW K) (pv 2) (po_some (pe_op op_add (pv 4) pe_int)) po_none))))) pss_nil)
      (pss_cons (ps_if (PW.pt (pw_and (pt_val (pe_callB c_isinst (by rfl) T.n_isinstance bt_isinstance (pa_cons (pv 2) (pa_cons (pe_bltn (v := .ty "tuple") rfl T.n_tuple bt_tuple rfl) pa_nil)))) (pw_and1 (pt_cmpR (op_eqD hr.units) (pv 3) pe_int (nomark _))))) (pss_one (ps_ret (pe_call (ok__law_pick T) (hr.mono (by omega)) rfl T.m__law_pick T.F__law_pick.kp T.b__law_pick .nil pass0 (pa_cons (pv 0) (pa_cons (pv 1) (pa_cons (pe_lst (pa_cons (pe_callTy (k_list K) (by rfl) T.n_list bt_list (pa_cons (pv 2) pa_nil)) (pa_cons (pe_op op_catU (pv 2) (pv 2)) (pa_cons (pe_slice (k_slW K) (pv 2) (po_some pe_int) po_none) (pa_cons (k_revT K (pv 2) (pe_un un_neg pe_int) (fun _ _ _ h => ⟨1, rfl, h⟩)) (pa_cons (pe_op op_catU (pv 2) (pe_slice (k_slW K) (pv 2) (po_some (pe_un un_neg pe_int)) po_none)) pa_nil)))))) pa_nil)))))) pss_nil)
      (pss_one (ps_ret (pe_call (ok__law_pick T) (hr.mono (by omega)) rfl T.m__law_pick T.F__law_pick.kp T.b__law_pick .nil pass0 (pa_cons (pv 0) (pa_cons (pv 1) (pa_cons (pe_lst (pa_cons pe_non (pa_cons pe_bl (pa_cons pe_str (pa_cons pe_int (pa_cons pe_int (pa_cons pe_int (pa_cons pe_int (pa_cons pe_int (pa_cons (pe_un un_neg pe_int) (pa_cons (pe_tup pa_nil) (pa_cons (pe_tup (pa_cons pe_int (pa_cons pe_int pa_nil))) (pa_cons (pe_tup (pa_cons pe_int (pa_cons pe_int pa_nil))) (pa_cons (pe_tup (pa_cons pe_int (pa_cons pe_int pa_nil))) (pa_cons (pe_lst (pa_cons pe_int (pa_cons pe_int pa_nil))) pa_nil))))))))))))))) pa_nil))))))))), ?_⟩
    walk_at "rd"
    refine ⟨a, ns, tw, ts, 8, rfl, hs, ht, by omega, by decide, fun r HL ts1 s1 ht1 hl1 r0 r8 => ?_⟩
    have hx1 := hx.same (cut_same s1)
    have hxf : Is HL x d := hx1.same cut_sub
    have hs1 := hs.t ht s1
    walk_at "rd"
    by_cases hd : ∃ ds, d = .tuple ds
    · obtain ⟨ds, rfl⟩ := hd
      obtain ⟨p, xs, j', rfl, ep, rfl, lx, lxd, gx⟩ := good_parts hx1 hb
      walk_at "rd"
      refine ⟨by show 0 ≤ sizeLine; decide, fun p0 hp0 => ?_⟩
      have f0 := Same.upd (o := .tup []) hp0
      replace s1 := s1.trans (f0.t (w := tw))
      replace ht1 := f0 _ _ ht1
      replace hs1 := hs1.same f0
      replace ep := f0 _ _ ep
      replace hxf := hxf.same f0
      replace gx : ∀ v ∈ xs, Good tw (upd HL p0 (.tup [])) m j' v := fun v hv => (gx v hv).same f0
      have e0 : upd HL p0 (.tup []) p0 = some (.tup []) := upd_same
      clear hx1
      generalize upd HL p0 (.tup []) = HL at s1 ht1 hs1 ep hxf gx e0 f0 ⊢
      refine rd_eqD hxf (.tup e0 .nil) (hb.ok (by omega)) ⟨rfl, by decide⟩ ?_
      cases ds with
      | nil =>
        refine ⟨false, by rw [if_pos rfl, show PyData.eqv (.tuple []) (.tuple []) = true by rw [PyData.eqv]; rfl]; rfl, ?_⟩
        walk_at "rd"
        refine ifB (fun g => ?_) (fun g => ?_)
        · skip
          walk_at "rd"
          refine rd_lstT ep fun p1 hp1 => ?_
          have f1 := Same.upd (o := .lst xs) hp1
          have n1 : p1 ≠ tw := fun z => by rw [z, ht1] at hp1; cases hp1
          have g1 : Good tw (upd HL p1 (.lst xs)) (2 * m + 1) (j' + 1) (.ref p1) := good_lst n1 upd_same (by omega) fun v hv => ((gx v hv).same f1).mono (by omega) (Nat.le_refl _)
          generalize upd HL p1 (.lst xs) = G1 at f1 g1
          walk_at "rd"
          refine rd_catU (f1 _ _ ep) (f1 _ _ ep) (small_ln (by omega)) fun p2 G2 f2' e2 => ?_
          have f2 := f1.trans f2'
          have g2 : Good tw G2 (2 * m + 1) (j' + 1) (.ref p2) := good_tup (f2 _ _ ht1) e2 (by rw [List.length_append]; omega) fun v hv => by
            rcases List.mem_append.mp hv with hv | hv
            · exact ((gx v hv).same f2).mono (by omega) (Nat.le_refl _)
            · exact ((gx v hv).same f2).mono (by omega) (Nat.le_refl _)
          replace g1 := g1.same f2'
          walk_at "rd"
          refine rd_sl ?_
          walk_at "rd"
          refine rd_part ?_
          walk_at "rd"
          refine ⟨1, rfl, ?_⟩
          refine rd_noP ?_
          refine rd_slW (K := K) (f2 _ _ ep) fun p3 G3 f3' e3 => ?_
          have f3 := f2.trans f3'
          have g3 : Good tw G3 (2 * m + 1) (j' + 1) (.ref p3) := good_tup (f3 _ _ ht1) e3 (by have := cutV_length xs (some 1) none; omega) fun v hv => ((gx v (mem_cutV hv)).same f3).mono (by omega) (Nat.le_refl _)
          replace g1 := g1.same f3'
          replace g2 := g2.same f3'
          walk_at "rd"
          refine rd_revT ?_
          walk_at "rd"
          refine ⟨p, xs, rfl, SqT.of (f3 _ _ ep), fun p4 hp4 => ?_⟩
          have f4' := Same.upd (o := .tup xs.reverse) hp4
          have f4 := f3.trans f4'
          have g4 : Good tw (upd G3 p4 (.tup xs.reverse)) (2 * m + 1) (j' + 1) (.ref p4) := good_tup (f4 _ _ ht1) upd_same (by rw [List.length_reverse]; omega) fun v hv => ((gx v (List.mem_reverse.mp hv)).same f4).mono (by omega) (Nat.le_refl _)
          replace g1 := g1.same f4'
          replace g2 := g2.same f4'
          replace g3 := g3.same f4'
          generalize upd G3 p4 (.tup xs.reverse) = G4 at f4 g1 g2 g3 g4
          walk_at "rd"
          refine rd_sl ?_
          walk_at "rd"
          refine rd_part ?_
          walk_at "rd"
          refine ⟨_, rfl, ?_⟩
          refine ⟨-1, rfl, ?_⟩
          refine rd_noP ?_
          refine rd_slW (K := K) (f4 _ _ ep) fun p5 G5 f5' e5 => ?_
          have f5 := f4.trans f5'
          refine rd_catU (f5 _ _ ep) e5 (small_ln (by have := cutV_length xs (some (-1)) none; omega)) fun p6 G6 f6' e6 => ?_
          have f6 := f5.trans f6'
          have g6 : Good tw G6 (2 * m + 1) (j' + 1) (.ref p6) := good_tup (f6 _ _ ht1) e6 (by have := cutV_length xs (some (-1)) none; rw [List.length_append]; omega) fun v hv => by
            rcases List.mem_append.mp hv with hv | hv
            · exact ((gx v hv).same f6).mono (by omega) (Nat.le_refl _)
            · exact ((gx v (mem_cutV hv)).same f6).mono (by omega) (Nat.le_refl _)
          replace g1 := (g1.same f5').same f6'
          replace g2 := (g2.same f5').same f6'
          replace g3 := (g3.same f5').same f6'
          replace g4 := (g4.same f5').same f6'
          walk_at "rd"
          refine ⟨by show 5 ≤ sizeLine; decide, fun pl hpl => ?_⟩
          have npl : pl ≠ tw := fun z => by rw [z, f6 _ _ ht1] at hpl; cases hpl
          have all : ∀ v ∈ [V.ref p1, V.ref p2, V.ref p3, V.ref p4, V.ref p6], Good tw G6 (2 * m + 1) (j' + 1) v := by
            intro v hv
            simp only [List.mem_cons, List.not_mem_nil, or_false] at hv
            rcases hv with rfl | rfl | rfl | rfl | rfl
            · exact g1
            · exact g2
            · exact g3
            · exact g4
            · exact g6
          have W0 : 0 < [V.ref p1, V.ref p2, V.ref p3, V.ref p4, V.ref p6].length := Nat.zero_lt_succ _
          generalize [V.ref p1, V.ref p2, V.ref p3, V.ref p4, V.ref p6] = W at *
          have fl := f6.trans (Same.upd (o := .lst W) hpl)
          walk_at "rd"
          refine ⟨a, ns, tw, ts1, pl, W, rfl, hs1.same fl, fl _ _ ht1, by omega, upd_same, npl, W0, fun v H3 ts3 s3 ht3 hl3 hv => ?_⟩
          exact q v H3 ts3 (s1.trans (fl.t.trans s3)) ht3 (by omega) ((((all v hv).same (Same.upd (o := .lst W) hpl)).t s3).mono (Nat.le_refl _) (by omega))
        · skip
          walk_at "rd"
          refine ⟨1, rfl, ?_⟩
          walk_at "rd"
          refine ⟨by show 0 ≤ sizeLine; decide, fun p1 hp1 => ?_⟩
          have f1 := Same.upd (o := .tup []) hp1
          have g1 : Good tw (upd HL p1 (.tup [])) 2 1 (.ref p1) := good_tup (f1 _ _ ht1) upd_same (Nat.zero_le _) (fun v h => by cases h)
          generalize upd HL p1 (.tup []) = G1 at f1 g1
          walk_at "rd"
          refine ⟨two_ln, fun p2 hp2 => ?_⟩
          have f2 := Same.upd (o := .tup [V.int 0, V.int 1]) hp2
          have g2 : Good tw (upd G1 p2 (.tup [V.int 0, V.int 1])) 2 1 (.ref p2) := good_tup ((f1.trans f2) _ _ ht1) upd_same (Nat.le_refl _) (two_good _ _)
          replace g1 := g1.same f2
          replace f2 := f1.trans f2
          generalize upd G1 p2 (.tup [V.int 0, V.int 1]) = G2 at f2 g1 g2
          walk_at "rd"
          refine ⟨two_ln, fun p3 hp3 => ?_⟩
          have f3 := Same.upd (o := .tup [V.int 1, V.int 0]) hp3
          have g3 : Good tw (upd G2 p3 (.tup [V.int 1, V.int 0])) 2 1 (.ref p3) := good_tup ((f2.trans f3) _ _ ht1) upd_same (Nat.le_refl _) (two_good _ _)
          replace g1 := g1.same f3
          replace g2 := g2.same f3
          replace f3 := f2.trans f3
          generalize upd G2 p3 (.tup [V.int 1, V.int 0]) = G3 at f3 g1 g2 g3
          walk_at "rd"
          refine ⟨two_ln, fun p4 hp4 => ?_⟩
          have f4 := Same.upd (o := .tup [V.int 1, V.int 1]) hp4
          have g4 : Good tw (upd G3 p4 (.tup [V.int 1, V.int 1])) 2 1 (.ref p4) := good_tup ((f3.trans f4) _ _ ht1) upd_same (Nat.le_refl _) (two_good _ _)
          replace g1 := g1.same f4
          replace g2 := g2.same f4
          replace g3 := g3.same f4
          replace f4 := f3.trans f4
          generalize upd G3 p4 (.tup [V.int 1, V.int 1]) = G4 at f4 g1 g2 g3 g4
          walk_at "rd"
          refine ⟨by show 2 ≤ sizeLine; decide, fun p5 hp5 => ?_⟩
          have f5 := Same.upd (o := .lst [V.int 0, V.int 1]) hp5
          have n5 : p5 ≠ tw := fun z => by rw [z, f4 _ _ ht1] at hp5; cases hp5
          have g5 : Good tw (upd G4 p5 (.lst [V.int 0, V.int 1])) 2 1 (.ref p5) := good_lst n5 upd_same (Nat.le_refl _) (two_good _ _)
          replace g1 := g1.same f5
          replace g2 := g2.same f5
          replace g3 := g3.same f5
          replace g4 := g4.same f5
          replace f5 := f4.trans f5
          generalize upd G4 p5 (.lst [V.int 0, V.int 1]) = G5 at f5 g1 g2 g3 g4 g5
          walk_at "rd"
          refine ⟨by show 14 ≤ sizeLine; decide, fun pl hpl => ?_⟩
          have npl : pl ≠ tw := fun z => by rw [z, f5 _ _ ht1] at hpl; cases hpl
          have all : ∀ v ∈ [V.non, V.bl true, V.str (Str.ofString "1"), V.int 0, V.int 1, V.int 7, V.int 8, V.int 9, V.int (-1), V.ref p1, V.ref p2, V.ref p3, V.ref p4, V.ref p5], Good tw G5 2 1 v := by
            intro v hv
            simp only [List.mem_cons, List.not_mem_nil, or_false] at hv
            rcases hv with rfl | rfl | rfl | rfl | rfl | rfl | rfl | rfl | rfl | rfl | rfl | rfl | rfl | rfl
            · exact ⟨_, .non, .inl True.intro⟩
            · exact ⟨_, .bl _, .inl True.intro⟩
            · exact ⟨_, .str _, .inl (by show PyData.strOk (Str.ofString "1") = true; decide +kernel)⟩
            · exact ⟨_, .int _, .inl True.intro⟩
            · exact ⟨_, .int _, .inl True.intro⟩
            · exact ⟨_, .int _, .inl True.intro⟩
            · exact ⟨_, .int _, .inl True.intro⟩
            · exact ⟨_, .int _, .inl True.intro⟩
            · exact ⟨_, .int _, .inl True.intro⟩
            · exact g1
            · exact g2
            · exact g3
            · exact g4
            · exact g5
          have W0 : 0 < [V.non, V.bl true, V.str (Str.ofString "1"), V.int 0, V.int 1, V.int 7, V.int 8, V.int 9, V.int (-1), V.ref p1, V.ref p2, V.ref p3, V.ref p4, V.ref p5].length := Nat.zero_lt_succ _
          generalize [V.non, V.bl true, V.str (Str.ofString "1"), V.int 0, V.int 1, V.int 7, V.int 8, V.int 9, V.int (-1), V.ref p1, V.ref p2, V.ref p3, V.ref p4, V.ref p5] = W at *
          have fl := f5.trans (Same.upd (o := .lst W) hpl)
          walk_at "rd"
          refine ⟨a, ns, tw, ts1, pl, W, rfl, hs1.same fl, fl _ _ ht1, by omega, upd_same, npl, W0, fun v H3 ts3 s3 ht3 hl3 hv => ?_⟩
          exact q v H3 ts3 (s1.trans (fl.t.trans s3)) ht3 (by omega) ((((all v hv).same (Same.upd (o := .lst W) hpl)).t s3).mono (by omega) (by omega))
      | cons d0 ds0 =>
        have lx0 : 0 < xs.length := by rw [lxd]; exact Nat.zero_lt_succ _
        refine ⟨true, by rw [if_pos rfl, show PyData.eqv (.tuple (d0 :: ds0)) (.tuple []) = false by rw [PyData.eqv]; rfl]; rfl, ?_⟩
        walk_at "rd"
        refine ifB (fun g => ?_) (fun g => ?_)
        · skip
          walk_at "rd"
          refine ⟨a, ns, tw, ts1, _, rfl, hs1, ht1, by omega, by omega, fun r2 H2 ts2 s2 ht2 hl2 r20 r21 => ?_⟩
          have s12 := s1.trans s2
          have hs2 := hs1.t ht1 s2
          have ep2 := s2 _ _ ep (ne_of ep ht1 (by intro z; cases z))
          have gx2 : ∀ v ∈ xs, Good tw H2 m j' v := fun v hv => (gx v hv).t s2
          walk_at "rd"
          refine rd_sl ?_
          walk_at "rd"
          refine rd_noP ?_
          refine rd_part ?_
          walk_at "rd"
          refine ⟨r2, rfl, ?_⟩
          refine rd_slW (K := K) ep2 fun p3 H3 f3 e3 => ?_
          have ht3 := f3 _ _ ht2
          have hs3 := hs2.same f3
          have ep3 := f3 _ _ ep2
          walk_at "rd"
          have hr2 : r2.toNat < xs.length := by omega
          refine rd_ixT ep3 (atI_of (i := r2.toNat) (by omega) (List.getElem?_eq_getElem hr2)) ?_
          walk_at "rd"
          refine ⟨a, ns, tw, ts2, _, m, j', rfl, hs3, ht3, by omega, by omega, by omega, (gx2 _ (List.getElem_mem hr2)).same f3, m1, m2, fun x' H4 ts4 s4 ht4 hl4 g4 => ?_⟩
          have e4 := s4 _ _ e3 (ne_of e3 ht3 (by intro z; cases z))
          have ep4 := s4 _ _ ep3 (ne_of ep3 ht3 (by intro z; cases z))
          have gx4 : ∀ v ∈ xs, Good tw H4 (2 * m + 1) j' v := fun v hv => (((gx2 v hv).same f3).t s4).mono (by omega) (Nat.le_refl _)
          walk_at "rd"
          refine ⟨by show 1 ≤ sizeLine; decide, fun p5 hp5 => ?_⟩
          have f5 := Same.upd (o := .tup [x']) hp5
          have e5 : upd H4 p5 (.tup [x']) p5 = some (.tup [x']) := upd_same
          generalize upd H4 p5 (.tup [x']) = H5 at f5 e5
          have c1 := cutV_length xs none (some r2)
          refine rd_catU (f5 _ _ e4) e5 (small_ln (by show _ + 1 ≤ 1000; omega)) fun p6 H6 f6' e6 => ?_
          have f6 := f5.trans f6'
          walk_at "rd"
          refine rd_sl ?_
          walk_at "rd"
          refine rd_part ?_
          walk_at "rd"
          refine ⟨_, rfl, ?_⟩
          refine rd_noP ?_
          refine rd_slW (K := K) (f6 _ _ ep4) fun p7 H7 f7' e7 => ?_
          have f7 := f6.trans f7'
          have c2 := cutV_length xs (some (r2 + 1)) none
          refine rd_catU (f7' _ _ e6) e7 (small_ln (by rw [List.length_append]; show _ + 1 + _ ≤ 1000; omega)) fun p8 H8 f8' e8 => ?_
          have f8 := f7.trans f8'
          refine q _ H8 ts4 ((s12.trans f3.t).trans (s4.trans f8.t)) (f8 _ _ ht4) (by omega) (good_tup (f8 _ _ ht4) e8 ?_ fun v hv => ?_)
          · rw [List.length_append, List.length_append]
            show _ + 1 + _ ≤ _
            omega
          · rcases List.mem_append.mp hv with hv | hv
            · rcases List.mem_append.mp hv with hv | hv
              · exact ((gx4 v (mem_cutV hv)).same f8).mono (Nat.le_refl _) (by omega)
              · rcases List.mem_singleton.mp hv with rfl
                exact g4.same f8
            · exact ((gx4 v (mem_cutV hv)).same f8).mono (Nat.le_refl _) (by omega)
        · walk_at "rd"
          refine ifB (fun g => ?_) (fun g => ?_)
          · skip
            walk_at "rd"
            refine rd_lstT ep fun p1 hp1 => ?_
            have f1 := Same.upd (o := .lst xs) hp1
            have n1 : p1 ≠ tw := fun z => by rw [z, ht1] at hp1; cases hp1
            have g1 : Good tw (upd HL p1 (.lst xs)) (2 * m + 1) (j' + 1) (.ref p1) := good_lst n1 upd_same (by omega) fun v hv => ((gx v hv).same f1).mono (by omega) (Nat.le_refl _)
            generalize upd HL p1 (.lst xs) = G1 at f1 g1
            walk_at "rd"
            refine rd_catU (f1 _ _ ep) (f1 _ _ ep) (small_ln (by omega)) fun p2 G2 f2' e2 => ?_
            have f2 := f1.trans f2'
            have g2 : Good tw G2 (2 * m + 1) (j' + 1) (.ref p2) := good_tup (f2 _ _ ht1) e2 (by rw [List.length_append]; omega) fun v hv => by
              rcases List.mem_append.mp hv with hv | hv
              · exact ((gx v hv).same f2).mono (by omega) (Nat.le_refl _)
              · exact ((gx v hv).same f2).mono (by omega) (Nat.le_refl _)
            replace g1 := g1.same f2'
            walk_at "rd"
            refine rd_sl ?_
            walk_at "rd"
            refine rd_part ?_
            walk_at "rd"
            refine ⟨1, rfl, ?_⟩
            refine rd_noP ?_
            refine rd_slW (K := K) (f2 _ _ ep) fun p3 G3 f3' e3 => ?_
            have f3 := f2.trans f3'
            have g3 : Good tw G3 (2 * m + 1) (j' + 1) (.ref p3) := good_tup (f3 _ _ ht1) e3 (by have := cutV_length xs (some 1) none; omega) fun v hv => ((gx v (mem_cutV hv)).same f3).mono (by omega) (Nat.le_refl _)
            replace g1 := g1.same f3'
            replace g2 := g2.same f3'
            walk_at "rd"
            refine rd_revT ?_
            walk_at "rd"
            refine ⟨p, xs, rfl, SqT.of (f3 _ _ ep), fun p4 hp4 => ?_⟩
            have f4' := Same.upd (o := .tup xs.reverse) hp4
            have f4 := f3.trans f4'
            have g4 : Good tw (upd G3 p4 (.tup xs.reverse)) (2 * m + 1) (j' + 1) (.ref p4) := good_tup (f4 _ _ ht1) upd_same (by rw [List.length_reverse]; omega) fun v hv => ((gx v (List.mem_reverse.mp hv)).same f4).mono (by omega) (Nat.le_refl _)
            replace g1 := g1.same f4'
            replace g2 := g2.same f4'
            replace g3 := g3.same f4'
            generalize upd G3 p4 (.tup xs.reverse) = G4 at f4 g1 g2 g3 g4
            walk_at "rd"
            refine rd_sl ?_
            walk_at "rd"
            refine rd_part ?_
            walk_at "rd"
            refine ⟨_, rfl, ?_⟩
            refine ⟨-1, rfl, ?_⟩
            refine rd_noP ?_
            refine rd_slW (K := K) (f4 _ _ ep) fun p5 G5 f5' e5 => ?_
            have f5 := f4.trans f5'
            refine rd_catU (f5 _ _ ep) e5 (small_ln (by have := cutV_length xs (some (-1)) none; omega)) fun p6 G6 f6' e6 => ?_
            have f6 := f5.trans f6'
            have g6 : Good tw G6 (2 * m + 1) (j' + 1) (.ref p6) := good_tup (f6 _ _ ht1) e6 (by have := cutV_length xs (some (-1)) none; rw [List.length_append]; omega) fun v hv => by
              rcases List.mem_append.mp hv with hv | hv
              · exact ((gx v hv).same f6).mono (by omega) (Nat.le_refl _)
              · exact ((gx v (mem_cutV hv)).same f6).mono (by omega) (Nat.le_refl _)
            replace g1 := (g1.same f5').same f6'
            replace g2 := (g2.same f5').same f6'
            replace g3 := (g3.same f5').same f6'
            replace g4 := (g4.same f5').same f6'
            walk_at "rd"
            refine ⟨by show 5 ≤ sizeLine; decide, fun pl hpl => ?_⟩
            have npl : pl ≠ tw := fun z => by rw [z, f6 _ _ ht1] at hpl; cases hpl
            have all : ∀ v ∈ [V.ref p1, V.ref p2, V.ref p3, V.ref p4, V.ref p6], Good tw G6 (2 * m + 1) (j' + 1) v := by
              intro v hv
              simp only [List.mem_cons, List.not_mem_nil, or_false] at hv
              rcases hv with rfl | rfl | rfl | rfl | rfl
              · exact g1
              · exact g2
              · exact g3
              · exact g4
              · exact g6
            have W0 : 0 < [V.ref p1, V.ref p2, V.ref p3, V.ref p4, V.ref p6].length := Nat.zero_lt_succ _
            generalize [V.ref p1, V.ref p2, V.ref p3, V.ref p4, V.ref p6] = W at *
            have fl := f6.trans (Same.upd (o := .lst W) hpl)
            walk_at "rd"
            refine ⟨a, ns, tw, ts1, pl, W, rfl, hs1.same fl, fl _ _ ht1, by omega, upd_same, npl, W0, fun v H3 ts3 s3 ht3 hl3 hv => ?_⟩
            exact q v H3 ts3 (s1.trans (fl.t.trans s3)) ht3 (by omega) ((((all v hv).same (Same.upd (o := .lst W) hpl)).t s3).mono (Nat.le_refl _) (by omega))
          · skip
            walk_at "rd"
            refine ⟨1, rfl, ?_⟩
            walk_at "rd"
            refine ⟨by show 0 ≤ sizeLine; decide, fun p1 hp1 => ?_⟩
            have f1 := Same.upd (o := .tup []) hp1
            have g1 : Good tw (upd HL p1 (.tup [])) 2 1 (.ref p1) := good_tup (f1 _ _ ht1) upd_same (Nat.zero_le _) (fun v h => by cases h)
            generalize upd HL p1 (.tup []) = G1 at f1 g1
            walk_at "rd"
            refine ⟨two_ln, fun p2 hp2 => ?_⟩
            have f2 := Same.upd (o := .tup [V.int 0, V.int 1]) hp2
            have g2 : Good tw (upd G1 p2 (.tup [V.int 0, V.int 1])) 2 1 (.ref p2) := good_tup ((f1.trans f2) _ _ ht1) upd_same (Nat.le_refl _) (two_good _ _)
            replace g1 := g1.same f2
            replace f2 := f1.trans f2
            generalize upd G1 p2 (.tup [V.int 0, V.int 1]) = G2 at f2 g1 g2
            walk_at "rd"
            refine ⟨two_ln, fun p3 hp3 => ?_⟩
            have f3 := Same.upd (o := .tup [V.int 1, V.int 0]) hp3
            have g3 : Good tw (upd G2 p3 (.tup [V.int 1, V.int 0])) 2 1 (.ref p3) := good_tup ((f2.trans f3) _ _ ht1) upd_same (Nat.le_refl _) (two_good _ _)
            replace g1 := g1.same f3
            replace g2 := g2.same f3
            replace f3 := f2.trans f3
            generalize upd G2 p3 (.tup [V.int 1, V.int 0]) = G3 at f3 g1 g2 g3
            walk_at "rd"
            refine ⟨two_ln, fun p4 hp4 => ?_⟩
            have f4 := Same.upd (o := .tup [V.int 1, V.int 1]) hp4
            have g4 : Good tw (upd G3 p4 (.tup [V.int 1, V.int 1])) 2 1 (.ref p4) := good_tup ((f3.trans f4) _ _ ht1) upd_same (Nat.le_refl _) (two_good _ _)
            replace g1 := g1.same f4
            replace g2 := g2.same f4
            replace g3 := g3.same f4
            replace f4 := f3.trans f4
            generalize upd G3 p4 (.tup [V.int 1, V.int 1]) = G4 at f4 g1 g2 g3 g4
            walk_at "rd"
            refine ⟨by show 2 ≤ sizeLine; decide, fun p5 hp5 => ?_⟩
            have f5 := Same.upd (o := .lst [V.int 0, V.int 1]) hp5
            have n5 : p5 ≠ tw := fun z => by rw [z, f4 _ _ ht1] at hp5; cases hp5
            have g5 : Good tw (upd G4 p5 (.lst [V.int 0, V.int 1])) 2 1 (.ref p5) := good_lst n5 upd_same (Nat.le_refl _) (two_good _ _)
            replace g1 := g1.same f5
            replace g2 := g2.same f5
            replace g3 := g3.same f5
            replace g4 := g4.same f5
            replace f5 := f4.trans f5
            generalize upd G4 p5 (.lst [V.int 0, V.int 1]) = G5 at f5 g1 g2 g3 g4 g5
            walk_at "rd"
            refine ⟨by show 14 ≤ sizeLine; decide, fun pl hpl => ?_⟩
            have npl : pl ≠ tw := fun z => by rw [z, f5 _ _ ht1] at hpl; cases hpl
            have all : ∀ v ∈ [V.non, V.bl true, V.str (Str.ofString "1"), V.int 0, V.int 1, V.int 7, V.int 8, V.int 9, V.int (-1), V.ref p1, V.ref p2, V.ref p3, V.ref p4, V.ref p5], Good tw G5 2 1 v := by
              intro v hv
              simp only [List.mem_cons, List.not_mem_nil, or_false] at hv
              rcases hv with rfl | rfl | rfl | rfl | rfl | rfl | rfl | rfl | rfl | rfl | rfl | rfl | rfl | rfl
              · exact ⟨_, .non, .inl True.intro⟩
              · exact ⟨_, .bl _, .inl True.intro⟩
              · exact ⟨_, .str _, .inl (by show PyData.strOk (Str.ofString "1") = true; decide +kernel)⟩
              · exact ⟨_, .int _, .inl True.intro⟩
              · exact ⟨_, .int _, .inl True.intro⟩
              · exact ⟨_, .int _, .inl True.intro⟩
              · exact ⟨_, .int _, .inl True.intro⟩
              · exact ⟨_, .int _, .inl True.intro⟩
              · exact ⟨_, .int _, .inl True.intro⟩
              · exact g1
              · exact g2
              · exact g3
              · exact g4
              · exact g5
            have W0 : 0 < [V.non, V.bl true, V.str (Str.ofString "1"), V.int 0, V.int 1, V.int 7, V.int 8, V.int 9, V.int (-1), V.ref p1, V.ref p2, V.ref p3, V.ref p4, V.ref p5].length := Nat.zero_lt_succ _
            generalize [V.non, V.bl true, V.str (Str.ofString "1"), V.int 0, V.int 1, V.int 7, V.int 8, V.int 9, V.int (-1), V.ref p1, V.ref p2, V.ref p3, V.ref p4, V.ref p5] = W at *
            have fl := f5.trans (Same.upd (o := .lst W) hpl)
            walk_at "rd"
            refine ⟨a, ns, tw, ts1, pl, W, rfl, hs1.same fl, fl _ _ ht1, by omega, upd_same, npl, W0, fun v H3 ts3 s3 ht3 hl3 hv => ?_⟩
            exact q v H3 ts3 (s1.trans (fl.t.trans s3)) ht3 (by omega) ((((all v hv).same (Same.upd (o := .lst W) hpl)).t s3).mono (by omega) (by omega))
    · have hd' : ∀ ds, d ≠ .tuple ds := fun ds e => hd ⟨ds, e⟩
      rw [isTup_no hd']
      walk_at "rd"
      rw [isTup_no hd']
      walk_at "rd"
      refine ⟨1, rfl, ?_⟩
      walk_at "rd"
      refine ⟨by show 0 ≤ sizeLine; decide, fun p1 hp1 => ?_⟩
      have f1 := Same.upd (o := .tup []) hp1
      have g1 : Good tw (upd HL p1 (.tup [])) 2 1 (.ref p1) := good_tup (f1 _ _ ht1) upd_same (Nat.zero_le _) (fun v h => by cases h)
      generalize upd HL p1 (.tup []) = G1 at f1 g1
      walk_at "rd"
      refine ⟨two_ln, fun p2 hp2 => ?_⟩
      have f2 := Same.upd (o := .tup [V.int 0, V.int 1]) hp2
      have g2 : Good tw (upd G1 p2 (.tup [V.int 0, V.int 1])) 2 1 (.ref p2) := good_tup ((f1.trans f2) _ _ ht1) upd_same (Nat.le_refl _) (two_good _ _)
      replace g1 := g1.same f2
      replace f2 := f1.trans f2
      generalize upd G1 p2 (.tup [V.int 0, V.int 1]) = G2 at f2 g1 g2
      walk_at "rd"
      refine ⟨two_ln, fun p3 hp3 => ?_⟩
      have f3 := Same.upd (o := .tup [V.int 1, V.int 0]) hp3
      have g3 : Good tw (upd G2 p3 (.tup [V.int 1, V.int 0])) 2 1 (.ref p3) := good_tup ((f2.trans f3) _ _ ht1) upd_same (Nat.le_refl _) (two_good _ _)
      replace g1 := g1.same f3
      replace g2 := g2.same f3
      replace f3 := f2.trans f3
      generalize upd G2 p3 (.tup [V.int 1, V.int 0]) = G3 at f3 g1 g2 g3
      walk_at "rd"
      refine ⟨two_ln, fun p4 hp4 => ?_⟩
      have f4 := Same.upd (o := .tup [V.int 1, V.int 1]) hp4
      have g4 : Good tw (upd G3 p4 (.tup [V.int 1, V.int 1])) 2 1 (.ref p4) := good_tup ((f3.trans f4) _ _ ht1) upd_same (Nat.le_refl _) (two_good _ _)
      replace g1 := g1.same f4
      replace g2 := g2.same f4
      replace g3 := g3.same f4
      replace f4 := f3.trans f4
      generalize upd G3 p4 (.tup [V.int 1, V.int 1]) = G4 at f4 g1 g2 g3 g4
      walk_at "rd"
      refine ⟨by show 2 ≤ sizeLine; decide, fun p5 hp5 => ?_⟩
      have f5 := Same.upd (o := .lst [V.int 0, V.int 1]) hp5
      have n5 : p5 ≠ tw := fun z => by rw [z, f4 _ _ ht1] at hp5; cases hp5
      have g5 : Good tw (upd G4 p5 (.lst [V.int 0, V.int 1])) 2 1 (.ref p5) := good_lst n5 upd_same (Nat.le_refl _) (two_good _ _)
      replace g1 := g1.same f5
      replace g2 := g2.same f5
      replace g3 := g3.same f5
      replace g4 := g4.same f5
      replace f5 := f4.trans f5
      generalize upd G4 p5 (.lst [V.int 0, V.int 1]) = G5 at f5 g1 g2 g3 g4 g5
      walk_at "rd"
      refine ⟨by show 14 ≤ sizeLine; decide, fun pl hpl => ?_⟩
      have npl : pl ≠ tw := fun z => by rw [z, f5 _ _ ht1] at hpl; cases hpl
      have all : ∀ v ∈ [V.non, V.bl true, V.str (Str.ofString "1"), V.int 0, V.int 1, V.int 7, V.int 8, V.int 9, V.int (-1), V.ref p1, V.ref p2, V.ref p3, V.ref p4, V.ref p5], Good tw G5 2 1 v := by
        intro v hv
        simp only [List.mem_cons, List.not_mem_nil, or_false] at hv
        rcases hv with rfl | rfl | rfl | rfl | rfl | rfl | rfl | rfl | rfl | rfl | rfl | rfl | rfl | rfl
        · exact ⟨_, .non, .inl True.intro⟩
        · exact ⟨_, .bl _, .inl True.intro⟩
        · exact ⟨_, .str _, .inl (by show PyData.strOk (Str.ofString "1") = true; decide +kernel)⟩
        · exact ⟨_, .int _, .inl True.intro⟩
        · exact ⟨_, .int _, .inl True.intro⟩
        · exact ⟨_, .int _, .inl True.intro⟩
        · exact ⟨_, .int _, .inl True.intro⟩
        · exact ⟨_, .int _, .inl True.intro⟩
        · exact ⟨_, .int _, .inl True.intro⟩
        · exact g1
        · exact g2
        · exact g3
        · exact g4
        · exact g5
      have W0 : 0 < [V.non, V.bl true, V.str (Str.ofString "1"), V.int 0, V.int 1, V.int 7, V.int 8, V.int 9, V.int (-1), V.ref p1, V.ref p2, V.ref p3, V.ref p4, V.ref p5].length := Nat.zero_lt_succ _
      generalize [V.non, V.bl true, V.str (Str.ofString "1"), V.int 0, V.int 1, V.int 7, V.int 8, V.int 9, V.int (-1), V.ref p1, V.ref p2, V.ref p3, V.ref p4, V.ref p5] = W at *
      have fl := f5.trans (Same.upd (o := .lst W) hpl)
      walk_at "rd"
      refine ⟨a, ns, tw, ts1, pl, W, rfl, hs1.same fl, fl _ _ ht1, by omega, upd_same, npl, W0, fun v H3 ts3 s3 ht3 hl3 hv => ?_⟩
      exact q v H3 ts3 (s1.trans (fl.t.trans s3)) ht3 (by omega) ((((all v hv).same (Same.upd (o := .lst W) hpl)).t s3).mono (by omega) (by omega))
theorem ok_spoilt (T : Txt K mg t) : ∀ k, FnOk P w K mg base CX0 (k + 5) t.a__law_spoilt t.d__law_spoilt ["_law_script", "_law_town", "_law_thing"] (sp_spoilt K k)
  | 0 => T.F__law_spoilt.ok sc__law_spoilt (fun vs H Q E h => by
      obtain ⟨a, ns, tw, ts, x, m, j, rfl, _⟩ := h
      rfl) (fun cdv A outer s H vs Q E hr h => by
      obtain ⟨a, ns, tw, ts, x, m, j, rfl, hs, ht, hl, hj, _⟩ := h
      omega)
  | k + 1 => spoilt_step T k (ok_spoilt T k)
theorem ok__law_spoilt (T : Txt K mg t) : FnOk P w K mg base CX0 10 t.a__law_spoilt t.d__law_spoilt ["_law_script", "_law_town", "_law_thing"] (sp_spoilt K 5) := ok_spoilt T 5
end
end My

set_option Elab.async false
set_option linter.all false
set_option maxRecDepth 100000
set_option maxHeartbeats 4000000
namespace My
open PySem L2
theorem seq_rest {ta tb : TS} {D : Ends} {σ : St} {H : Hp} (C : St → Hp → Prop) (rest : ∀ σ' H', C σ' H' → tb D σ' H') (h : ∀ D' : Ends, D'.rt = D.rt → (∀ σ' H', C σ' H' → D'.nx σ' H') → ta D' σ H) : tSeq ta tb D σ H := h { D with nx := tb D } rfl rest
structure Eo (K : PySem.W.Frag) (H : Hp) (a : Addr) (ns : List Int) (tw : Addr) (x : V) (n : Nat) (ps : List (Int × Int)) (L : Nat) : Prop where
  scr : Scr K H a ns
  twn : ∃ ts, H tw = some (.lst ts) ∧ ts.length ≤ L
  ix : Is H x (ordD n ps)
section
variable {K : PySem.W.Frag} {H H' : Hp} {a : Addr} {ns : List Int} {tw : Addr} {x : V} {ts : List V} {n : Nat} {ps : List (Int × Int)} {L L' : Nat}
theorem Eo.same (h : Eo K H a ns tw x n ps L) (s : Same H H') : Eo K H' a ns tw x n ps L := ⟨h.scr.same s, let ⟨ts, e, g⟩ := h.twn; ⟨ts, s _ _ e, g⟩, h.ix.same s⟩
theorem Eo.up (h : Eo K H a ns tw x n ps L) (g : L ≤ L') : Eo K H a ns tw x n ps L' := ⟨h.scr, let ⟨ts, e, z⟩ := h.twn; ⟨ts, e, Nat.le_trans z g⟩, h.ix⟩
theorem Eo.draw (h : Eo K H a ns tw x n ps L) (s : SameT tw H H') (e : H' tw = some (.lst ts)) (g : ts.length ≤ L') : Eo K H' a ns tw x n ps L' := by
  obtain ⟨ts0, e0, _⟩ := h.twn
  exact ⟨h.scr.t e0 s, ⟨ts, e, g⟩, ord_tt e0 s h.ix⟩
theorem Eo.fr {q : Addr} (h : Eo K H a ns tw x n ps L) (e : H q = none) : q ≠ tw := fun z => by
  obtain ⟨ts, e2, _⟩ := h.twn
  rw [z, e2] at e
  cases e
end
theorem Bn.tuple {m k : Nat} {ds : List PyData} (h : Bn m k (.tuple ds)) : ∃ k', k = k' + 1 ∧ ds.length ≤ m ∧ ∀ e ∈ ds, Bn m k' e := by
  cases k with
  | zero => exact absurd h (by intro z; exact z)
  | succ k' =>
    rcases h with h | ⟨es, e, l, a⟩
    · exact absurd h (by intro z; exact z)
    · have : es = ds := by
        rcases e with e | e
        · injection e with e; exact e.symm
        · cases e
      subst this
      exact ⟨k', rfl, l, a⟩
theorem Bn.ord {m k : Nat} {d : PyData} (h : Bn m k d) (hm : m ≤ 1000) : okOrd d := by
  rintro x ds rfl
  obtain ⟨k', rfl, _, a⟩ := h.tuple
  obtain ⟨_, _, l, _⟩ := (a _ (List.mem_cons_of_mem _ List.mem_cons_self)).tuple
  omega
theorem bn_pr {m : Nat} (hm : 2 ≤ m) (p : Int × Int) : Bn m 1 (prD p) := .inr ⟨_, .inl rfl, hm, fun e he => by
  simp only [List.mem_cons, List.not_mem_nil, or_false] at he
  rcases he with rfl | rfl
  · exact True.intro
  · exact True.intro⟩
theorem bn_ord {n : Nat} {ps : List (Int × Int)} (h : ps.length ≤ 64) : Bn 64 3 (ordD n ps) := .inr ⟨_, .inl rfl, by show 2 ≤ 64; decide, fun e he => by
  simp only [List.mem_cons, List.not_mem_nil, or_false] at he
  rcases he with rfl | rfl
  · exact Bn.sc True.intro
  · refine .inr ⟨_, .inl rfl, by rw [List.length_map]; exact h, fun e he => ?_⟩
    obtain ⟨p, _, rfl⟩ := List.mem_map.mp he
    exact bn_pr (by decide) p⟩
theorem good_ord {H : Hp} {tw : Addr} {ts : List V} {x : V} {n : Nat} {ps : List (Int × Int)} (hw : H tw = some (.lst ts)) (hx : Is H x (ordD n ps)) (h : ps.length ≤ 64) : Good tw H 64 3 x :=
  ⟨_, hx.tmono (fun c us e => cut_at (ne_of e hw (by intro z; cases z)) e) (noL_ordk _ _), bn_ord h⟩
noncomputable def mm : Nat → Nat | 0 => 64 | 1 => 129 | _ => 259
theorem mm_up {i : Nat} (h : i < 2) : 2 * mm i + 1 = mm (i + 1) ∧ 1 ≤ mm i ∧ mm i ≤ 200 := by
  obtain rfl | rfl : i = 0 ∨ i = 1 := by omega
  · decide
  · decide
theorem head_find (f : Int → Bool) : ∀ l : List Int, (((l.filter f).map V.int) ++ [V.non])[0]? = some (match l.find? f with | some c => V.int c | none => V.non)
  | [] => rfl
  | c :: l => by
    rw [List.filter_cons, List.find?_cons]
    cases h : f c with
    | true => rfl
    | false => exact head_find f l
theorem filt_len (f : Int → Bool) (l : List Int) : (l.filter f).length ≤ l.length := List.length_filter_le _ _
theorem upTo_at {n k : Nat} (h : k < n) : (L2.upTo n)[k]? = some (k : Int) := by
  unfold L2.upTo
  rw [List.getElem?_map, List.getElem?_range h]
  rfl
theorem upTo_take (n : Nat) : (L2.upTo n).take n = L2.upTo n := List.take_of_length_le (by rw [L2.upTo_len]; exact Nat.le_refl _)
theorem prt_eq (ps : List (Int × Int)) (c a b : Int) : (!PyData.eqv (.list [.bool (has ps c a), .bool (has ps a c)]) (.list [.bool (has ps c b), .bool (has ps b c)])) = prtB ps c a b := by
  unfold prtB
  rw [PyData.eqv, PyData.eqvAll, PyData.eqvAll, PyData.eqvAll, PyData.eqv, PyData.eqv]
  cases has ps c a <;> cases has ps a c <;> cases has ps c b <;> cases has ps b c <;> rfl
section
variable {P : Program} {w : World} {K : PySem.W.Frag} {mg : Str → Option Value} {base : Heap} {t : Ad}
set_option genSizeOf false in
set_option genInjectivity false in
inductive spLaw (K : PySem.W.Frag) (vs : List V) (H : Hp) (Q : VK) (zz3 : XK) : Prop where
  | mk (a ns : _) (zh0 : vs = [.ref a]) (zh1 : Scr K H a ns) (zh2 : ∀ H', Q (.bl true) H') : spLaw K vs H Q zz3
theorem ok_law (T : Txt K mg t) : FnOk P w K mg base CX0 12 t.a_law t.d_law ["_law_script"] (spLaw K) := by
  refine T.F_law.ok sc_law (fun vs H Q E h => ?_) (fun cdv A outer s H vs Q E hr h => ?_)
  · obtain ⟨a, ns, rfl, _⟩ := h
    rfl
  · obtain ⟨a, ns, rfl, hs, q⟩ := h
    refine ⟨_, (pss_cons (ps_set (i := 1) sc_law.nd rfl (Or.inr rfl) (pe_lst pa_nil))
      (pss_cons (ps_set (i := 2) sc_law.nd rfl (Or.inr rfl) (pe_call (ok__law_order T) (hr.mono (by decide)) rfl T.m__law_order T.F__law_order.kp T.b__law_order .nil pass0 (pa_cons (pv 0) (pa_cons (pv 1) (pa_cons pe_int pa_nil)))))
      (pss_cons (ps_set (i := 3) sc_law.nd rfl (Or.inr rfl) (pv 2))
      (pss_cons (ps_for PassesOwn.never rfl (pi_range1 rfl T.n_range (pa_cons (pe_op op_add pe_int (pe_call (ok__law_draw T) (hr.mono (by decide)) rfl T.m__law_draw T.F__law_draw.kp T.b__law_draw .nil pass0 (pa_cons (pv 0) (pa_cons (pv 1) (pa_cons pe_int pa_nil))))) pa_nil)) (pg_name (i := 4) sc_law.nd rfl (Or.inl rfl)) (pss_one (ps_set (i := 3) sc_law.nd rfl (Or.inr rfl) (pe_call (ok__law_spoilt T) (hr.mono (by decide)) rfl T.m__law_spoilt T.F__law_spoilt.kp T.b__law_spoilt .nil pass0 (pa_cons (pv 0) (pa_cons (pv 1) (pa_cons (pv 3) pa_nil)))))))
      (pss_cons (ps_if (PW.pt (pw_and (pt_not (pt_val (pe_call (ok__law_is_order T) (hr.mono (by decide)) rfl T.m__law_is_order T.F__law_is_order.kp T.b__law_is_order .nil pass0 (pa_cons (pv 3) pa_nil)))) (pw_and1 (pt_cmpR (op_neD hr.units) (pe_lc rfl ⟨True.intro, True.intro, True.intro, (.inl rfl), True.intro⟩ (M := ["_law_what", "_law_bad"]) (.own (.free 3 rfl rfl .nil)) (gk_name rfl) rfl (by decide +kernel) (pi_range1 rfl T.n_range (pa_cons pe_int pa_nil)) (fun C fp s1 H1 => ⟨pg_name (i := 0) (show (["_law_what", "_law_bad"] : List Str).Nodup by decide +kernel) rfl (Or.inl rfl), pif_nil, (pe_call (ok__law_ask T) (hr.mono (by decide)) rfl T.m__law_ask T.F__law_ask.kp T.b__law_ask .nil pass0 (pa_cons (pv 0) (pa_cons (pv 1) (pa_cons pe_non (pa_cons pe_non pa_nil)))))⟩)) (pe_op op_rep (pe_lst (pa_cons (pe_tup (pa_cons pe_str (pa_cons pe_int pa_nil))) pa_nil)) pe_int) (nomark _))))) (pss_one (ps_ret pe_bl)) pss_nil)
      (pss_cons (ps_asg (pe_lc rfl ⟨True.intro, True.intro, True.intro, (.inl rfl), (.inl rfl), (.inl rfl), True.intro⟩ (M := ["_law_k", "_law_order_here", "_law_script", "_law_town"]) (.own (.free 2 rfl rfl (.free 0 rfl rfl (.free 1 rfl rfl .nil)))) (gk_name rfl) rfl (by decide +kernel) (pi_range1 rfl T.n_range (pa_cons pe_int pa_nil)) (fun C fp s1 H1 => ⟨pg_name (i := 0) (show (["_law_k", "_law_order_here", "_law_script", "_law_town"] : List Str).Nodup by decide +kernel) rfl (Or.inl rfl), pif_nil, (pe_call (ok__law_draw T) (hr.mono (by decide)) rfl T.m__law_draw T.F__law_draw.kp T.b__law_draw .nil pass0 (pa_cons (pv 2) (pa_cons (pv 3) (pa_cons (pe_ix (k_ix K) (pv 1) pe_int (fun _ _ => rfl)) pa_nil))))⟩)) (k_glst K rfl (pgs_cons (pg_name (i := 5) sc_law.nd rfl (Or.inr rfl)) (pgs_cons (pg_name (i := 6) sc_law.nd rfl (Or.inl rfl)) pgs_nil))))
      (pss_cons (ps_set_lc (i := 8) sc_law.nd rfl rfl rfl rfl ⟨True.intro, True.intro, (.inl rfl), (.inl rfl), True.intro⟩ (M := ["_law_third", "_law_one", "_law_order_here"]) (.own (.free 5 rfl rfl (.free 2 rfl rfl .nil))) (gk_name rfl) rfl (by decide +kernel) (pi_range1 rfl T.n_range (pa_cons (pe_ix (k_ix K) (pv 2) pe_int (fun _ _ => rfl)) pa_nil)) (fun C fp s1 H1 => ⟨pg_name (i := 0) (show (["_law_third", "_law_one", "_law_order_here"] : List Str).Nodup by decide +kernel) rfl (Or.inl rfl), pif_one (PW.pt (pw_and (pt_cmpR (op_notInD hr.units) (pe_tup (pa_cons (pv 0) (pa_cons (pv 1) pa_nil))) (pe_ix (k_ix K) (pv 2) pe_int (fun _ _ => rfl)) (by rfl)) (pw_and1 (pt_cmpR (op_notInD hr.units) (pe_tup (pa_cons (pv 1) (pa_cons (pv 0) pa_nil))) (pe_ix (k_ix K) (pv 2) pe_int (fun _ _ => rfl)) (by rfl))))), (pv 0)⟩))
      (pss_cons (ps_if (pt_cmpR (op_neD hr.units) (pe_call (ok__law_ask T) (hr.mono (by decide)) rfl T.m__law_ask T.F__law_ask.kp T.b__law_ask .nil pass0 (pa_cons pe_int (pa_cons (pv 2) (pa_cons (pv 5) (pa_cons pe_non pa_nil))))) (pv 8) (nomark _)) (pss_one (ps_ret pe_bl)) pss_nil)
      (pss_cons (ps_set (i := 9) sc_law.nd rfl (Or.inl rfl) (pe_lst pa_nil))
      (pss_cons (ps_for PassesOwn.never rfl (pi_range1 rfl T.n_range (pa_cons (pe_ix (k_ix K) (pv 2) pe_int (fun _ _ => rfl)) pa_nil)) (pg_name (i := 7) sc_law.nd rfl (Or.inl rfl)) (pss_cons (ps_set (i := 10) sc_law.nd rfl (Or.inl rfl) (pe_lst (pa_cons (pe_cmpR (op_inD hr.units) (pe_tup (pa_cons (pv 7) (pa_cons (pv 5) pa_nil))) (pe_ix (k_ix K) (pv 2) pe_int (fun _ _ => rfl)) (by rfl)) (pa_cons (pe_cmpR (op_inD hr.units) (pe_tup (pa_cons (pv 5) (pa_cons (pv 7) pa_nil))) (pe_ix (k_ix K) (pv 2) pe_int (fun _ _ => rfl)) (by rfl)) pa_nil))))
      (pss_one (ps_if (pt_cmpR (op_neD hr.units) (pv 10) (pe_lst (pa_cons (pe_cmpR (op_inD hr.units) (pe_tup (pa_cons (pv 7) (pa_cons (pv 6) pa_nil))) (pe_ix (k_ix K) (pv 2) pe_int (fun _ _ => rfl)) (by rfl)) (pa_cons (pe_cmpR (op_inD hr.units) (pe_tup (pa_cons (pv 6) (pa_cons (pv 7) pa_nil))) (pe_ix (k_ix K) (pv 2) pe_int (fun _ _ => rfl)) (by rfl)) pa_nil))) (nomark _)) (pss_one (ps_expr (k_bm K PySem.F.plainAttrs_list PySem.F.slot_list_append PySem.F.type_list_append mt_append (pv 9) (pa_cons (pv 7) pa_nil)))) pss_nil))))
      (pss_cons (ps_if (pt_cmpR (op_neD hr.units) (pe_call (ok__law_ask T) (hr.mono (by decide)) rfl T.m__law_ask T.F__law_ask.kp T.b__law_ask .nil pass0 (pa_cons pe_int (pa_cons (pv 2) (pa_cons (pv 5) (pa_cons (pv 6) pa_nil))))) (pe_ix (k_ix K) (pe_op op_cat (pv 9) (pe_lst (pa_cons pe_non pa_nil))) pe_int (fun _ _ => rfl)) (nomark _)) (pss_one (ps_ret pe_bl)) pss_nil)
      (pss_cons (ps_set (i := 11) sc_law.nd rfl (Or.inl rfl) (pe_op op_add pe_int (pe_call (ok__law_draw T) (hr.mono (by decide)) rfl T.m__law_draw T.F__law_draw.kp T.b__law_draw .nil pass0 (pa_cons (pv 0) (pa_cons (pv 1) (pa_cons (pe_call (ok__law_pick T) (hr.mono (by decide)) rfl T.m__law_pick T.F__law_pick.kp T.b__law_pick .nil pass0 (pa_cons (pv 0) (pa_cons (pv 1) (pa_cons (pe_lst (pa_cons pe_int (pa_cons pe_int (pa_cons pe_int pa_nil)))) pa_nil)))) pa_nil))))))
      (pss_cons (ps_set (i := 12) sc_law.nd rfl (Or.inl rfl) (pe_callTy (k_tuple K) (by rfl) T.n_tuple bt_tuple (pa_cons (pe_lc rfl ⟨True.intro, True.intro, True.intro, True.intro, (.inl rfl), (.inl rfl), True.intro⟩ (M := ["_law_k", "_law_script", "_law_town"]) (.own (.free 0 rfl rfl (.free 1 rfl rfl .nil))) (gk_name rfl) rfl (by decide +kernel) (pi_range1 rfl T.n_range (pa_cons (pe_ix (k_ix K) (pv 2) pe_int (fun _ _ => rfl)) pa_nil)) (fun C fp s1 H1 => ⟨pg_name (i := 0) (show (["_law_k", "_law_script", "_law_town"] : List Str).Nodup by decide +kernel) rfl (Or.inl rfl), pif_nil, (pe_call (ok__law_draw T) (hr.mono (by decide)) rfl T.m__law_draw T.F__law_draw.kp T.b__law_draw .nil pass0 (pa_cons (pv 1) (pa_cons (pv 2) (pa_cons (pe_call (ok__law_pick T) (hr.mono (by decide)) rfl T.m__law_pick T.F__law_pick.kp T.b__law_pick .nil pass0 (pa_cons (pv 1) (pa_cons (pv 2) (pa_cons (pe_lst (pa_cons pe_int (pa_cons pe_int (pa_cons pe_int pa_nil)))) pa_nil)))) pa_nil))))⟩)) pa_nil)))
      (pss_cons (ps_if (pt_cmpR (op_neD hr.units) (pe_call (ok__law_ask T) (hr.mono (by decide)) rfl T.m__law_ask T.F__law_ask.kp T.b__law_ask .nil pass0 (pa_cons pe_int (pa_cons (pv 11) (pa_cons (pv 12) (pa_cons pe_non pa_nil))))) (pe_call (ok__law_by T) (hr.mono (by decide)) rfl T.m__law_by T.F__law_by.kp T.b__law_by .nil pass0 (pa_cons (pv 11) (pa_cons (pv 12) pa_nil))) (nomark _)) (pss_one (ps_ret pe_bl)) pss_nil)
      (pss_cons (ps_if (pt_cmpR (op_neD hr.units) (pe_call (ok__law_ask T) (hr.mono (by decide)) rfl T.m__law_ask T.F__law_ask.kp T.b__law_ask .nil pass0 (pa_cons pe_int (pa_cons (pv 2) (pa_cons (pv 11) (pa_cons (pv 12) pa_nil))))) (pe_cmpR (op_eqD hr.units) (pe_call (ok__law_by T) (hr.mono (by decide)) rfl T.m__law_by T.F__law_by.kp T.b__law_by .nil pass0 (pa_cons (pv 11) (pa_cons (pv 12) pa_nil))) (pv 2) (nomark _)) (nomark _)) (pss_one (ps_ret pe_bl)) pss_nil)
      (pss_one (ps_ret (pe_call (ok__law_refusals T) (hr.mono (by decide)) rfl T.m__law_refusals T.F__law_refusals.kp T.b__law_refusals .nil pass0 (pa_cons (pv 0) (pa_cons (pv 1) (pa_cons (pv 2) (pa_cons (pv 11) (pa_cons (pv 12) pa_nil))))))))))))))))))))))), ?_⟩
    walk_at "rd"
    refine ⟨Nat.zero_le _, fun tw htw => ?_⟩
    have s0 := Same.upd (o := .lst []) htw
    have hs0 := hs.same s0
    have et0 : upd H tw (.lst []) tw = some (.lst []) := upd_same
    generalize upd H tw (.lst []) = H0 at s0 hs0 et0
    walk_at "rd"
    refine ⟨a, ns, tw, [], rfl, hs0, et0, by decide, fun x H1 n ps ts1 s1 ht1 hl1 ho hx => ?_⟩
    have n1 := ho.lo
    have n8 := ho.hi
    have hl1' : ts1.length ≤ 60 := by simpa using hl1
    have E1 : Eo K H1 a ns tw x n ps 60 := ⟨hs0.t et0 s1, ⟨ts1, ht1, hl1'⟩, hx⟩
    have G1 : Good tw H1 64 3 x := good_ord ht1 hx (Nat.le_of_lt ho.small)
    clear hs0 et0 s1 hx s0 hs hl1
    walk_at "rd"
    refine ⟨a, ns, tw, ts1, 2, rfl, E1.scr, ht1, by omega, by decide, fun r H2 ts2 s2 ht2 hl2 r0 r2 => ?_⟩
    have E2 : Eo K H2 a ns tw x n ps 61 := E1.draw s2 ht2 (by omega)
    have G2 := G1.t s2
    clear E1 G1 s2 ht2 hl2 ht1 hl1'
    walk_at "rd"
    refine ⟨_, rfl, by omega, by omega, ?_⟩
    refine fp_range (fun i σ H' => ∃ bad v4, σ = [some (.ref a), some (.ref tw), some x, some bad, v4, none, none, none, none, none, none, none, none] ∧ Eo K H' a ns tw x n ps (61 + 10 * i) ∧ Good tw H' (mm i) (3 + i) bad) ⟨x, _, rfl, E2, G2⟩ ?_ ?_
    · rintro i σ H3 hi ⟨bad, v4, rfl, E3, G3⟩
      have hi2 : i < 2 := by omega
      obtain ⟨u1, u2, u3⟩ := mm_up hi2
      obtain ⟨ts3, ht3, hl3⟩ := E3.twn
      walk_at "rd"
      refine ⟨a, ns, tw, ts3, bad, mm i, 3 + i, rfl, E3.scr, ht3, by omega, by omega, by decide, G3, u2, u3, fun x' H4 ts4 s4 ht4 hl4 g4 => ?_⟩
      rw [u1] at g4
      walk_at "rd"
      exact ⟨x', _, rfl, E3.draw s4 ht4 (by omega), g4⟩
    rintro σ H3 ⟨bad, v4, rfl, E3, G3⟩
    have E3 : Eo K H3 a ns tw x n ps 81 := E3.up (by omega)
    clear E2 G2
    refine seq_rest (fun σ' H' => σ' = [some (.ref a), some (.ref tw), some x, some bad, v4, none, none, none, none, none, none, none, none] ∧ Eo K H' a ns tw x n ps 81) ?_ (fun D' hrt rest => ?_)
    rotate_left
    · obtain ⟨d, hd, hb⟩ := G3
      have hd3 : Is H3 bad d := hd.same cut_sub
      have oko : okOrd d := hb.ord (by generalize (1 + r).toNat = z; match z with | 0 => decide | 1 => decide | _ + 2 => exact (by decide : 259 ≤ 1000))
      have okd : okD d := hb.ok (by omega)
      walk_at "rd"
      refine ⟨bad, d, rfl, hd3, ⟨okd, oko⟩, fun H4 s4 => ?_⟩
      cases hB : orderB d with
      | true =>
        walk_at "rd"
        exact rest _ _ ⟨rfl, E3.same s4⟩
      | false =>
        walk_at "rd"
        refine ⟨_, rfl, by decide, by decide, ?_⟩
        refine lp_range (small_ln (by decide)) (fun i ys H' => Same H4 H' ∧ IsAll H' ys (List.replicate i (refD 0))) ⟨Same.refl _, .nil⟩ (by rintro j zs H' ⟨_, h⟩; rw [h.length, List.length_replicate]; exact Nat.le_refl _) ?_ ?_
        · rintro i ys H5 hi ⟨s5, iy⟩
          have hi' : i < 12 := hi
          walk_at "rd"
          refine ⟨_, _, _, _, rfl, .odd (by omega) (by omega) ((hd3.same s4).same s5) .non .non (few_o (fun _ z => by cases z)) oko hB (fun v H6 s6 iv => ?_)⟩
          refine ⟨s5.trans s6, ?_⟩
          rw [List.replicate_succ']
          exact (iy.same s6).append (.cons iv .nil)
        · rintro ys H5 ⟨s5, iy⟩ pl hpl
          have f6 := Same.upd (o := .lst ys) hpl
          have e6 : upd H5 pl (.lst ys) pl = some (.lst ys) := upd_same
          have i6 := iy.same f6
          have s6 := s5.trans f6
          generalize upd H5 pl (.lst ys) = H6 at f6 e6 i6 s6
          walk_at "rd"
          refine ⟨by show 2 ≤ sizeLine; decide, fun pa1 hpa1 => ?_⟩
          have ta1 := Same.upd (o := .tup [V.str "refused", V.int 0]) hpa1
          walk_at "rd"
          refine ⟨by show 1 ≤ sizeLine; decide, fun pb1 hpb1 => ?_⟩
          have tb1 := Same.upd (o := .lst [V.ref pa1]) hpb1
          walk_at "rd"
          refine rd_rep (n := 12) upd_same (by decide) fun pc1 hpc1 => ?_
          have tc1 := Same.upd (o := .lst (List.replicate 12 (V.ref pa1))) hpc1
          have td1 := (ta1.trans tb1).trans tc1
          have ia1 : IsAll (upd (upd (upd H6 pa1 (.tup [V.str "refused", V.int 0])) pb1 (.lst [V.ref pa1])) pc1 (.lst (List.replicate 12 (V.ref pa1)))) (List.replicate 12 (V.ref pa1)) (List.replicate 12 (refD 0)) := isAll_rep (.tup (tc1 _ _ (tb1 _ _ upd_same)) (.cons (.str _) (.cons (.int _) .nil))) _
          refine rd_eqD (d := .list ((List.replicate 12 0).map refD)) (e := .list ((List.replicate 12 0).map refD)) (.lst (Rd.of (td1 _ _ e6)) (i6.same td1)) (.lst (Rd.of upd_same) ia1) (ok_refL _) (ok_refL _) ?_
          rw [eqv_refL]
          generalize upd (upd (upd H6 pa1 (.tup [V.str "refused", V.int 0])) pb1 (.lst [V.ref pa1])) pc1 (.lst (List.replicate 12 (V.ref pa1))) = H7 at td1
          walk_at "rd"
          exact rest _ _ ⟨rfl, E3.same ((s4.trans s6).trans td1)⟩
    rintro σ' H4 ⟨rfl, E4⟩
    clear E3 G3
    obtain ⟨oa, ob, xs, rfl, ea0, eb0, hxs0⟩ := is_ord E4.ix
    have ordOf : ∀ {H5 : Hp}, Is H5 (.ref oa) (ordD n ps) → H5 oa = some (.tup [.int n, .ref ob]) ∨ True := fun _ => .inr True.intro
    have ea4 := ea0
    walk_at "rd"
    refine ⟨_, rfl, by decide, by decide, ?_⟩
    refine lp_range (small_ln (by decide)) (fun i ys H' => Eo K H' a ns tw (.ref oa) n ps (81 + i) ∧ SameT tw H4 H' ∧ ∃ vs : List Int, ys = vs.map V.int ∧ vs.length = i ∧ ∀ v ∈ vs, 0 ≤ v ∧ v < n) ⟨E4, SameT.refl _ _, [], rfl, rfl, fun v h => nomatch h⟩ (by
      rintro i ys H' ⟨_, _, vs, rfl, h, _⟩
      rw [List.length_map]
      omega) ?_ ?_
    · rintro i ys H5 hi ⟨E5, s5, vs, rfl, lvs, hvs⟩
      have hi2 : i < 2 := hi
      obtain ⟨ts5, ht5, hl5⟩ := E5.twn
      obtain ⟨ts4, ht4, hl4⟩ := E4.twn
      have ea5 := s5 _ _ ea0 (ne_of ea0 ht4 (by intro z; cases z))
      walk_at "rd"
      refine ⟨a, ns, tw, ts5, _, rfl, E5.scr, ht5, by omega, by omega, fun r5 H6 ts6 s6 ht6 hl6 r50 r51 => ?_⟩
      refine ⟨E5.draw s6 ht6 (by omega), s5.trans s6, vs ++ [r5], by rw [List.map_append]; rfl, by rw [List.length_append, lvs]; rfl, fun v hv => ?_⟩
      rcases List.mem_append.mp hv with h | h
      · exact hvs v h
      · rcases List.mem_singleton.mp h with rfl
        exact ⟨r50, r51⟩
    rintro ys H5 ⟨E5, s5, vs, rfl, lvs, hvs⟩ pl hpl
    obtain ⟨one, other, rfl⟩ : ∃ one other, vs = [one, other] := by
      have lvs' : vs.length = 2 := lvs
      match vs, lvs' with
      | [u, v], _ => exact ⟨u, v, rfl⟩
    obtain ⟨o0, o1⟩ := hvs one (by simp)
    obtain ⟨p0, p1⟩ := hvs other (by simp)
    have f6 := Same.upd (o := .lst [V.int one, V.int other]) hpl
    have E6 : Eo K (upd H5 pl (.lst [V.int one, V.int other])) a ns tw (.ref oa) n ps 83 := E5.same f6
    have el6 : upd H5 pl (.lst [V.int one, V.int other]) pl = some (.lst [V.int one, V.int other]) := upd_same
    clear E5 s5 hpl E4 ea4 ordOf hvs lvs
    simp only [List.map_cons, List.map_nil]
    walk_at "rd"
    refine rd_glst el6 rfl ?_
    generalize upd H5 pl (.lst [V.int one, V.int other]) = H6 at f6 E6 el6 ⊢
    clear f6 el6 ea0 eb0 hxs0
    obtain ⟨oa', ob, xs, e0, ea, eb, hxs⟩ := is_ord E6.ix
    cases e0
    walk_at "rd"
    refine ⟨_, rfl, by omega, by omega, ?_⟩
    rw [Int.toNat_natCast]
    refine lp_range (small_ln (by omega)) (fun i ys H' => Same H6 H' ∧ ys = (((L2.upTo n).take i).filter fun b => besB ps one b).map V.int) ⟨Same.refl _, rfl⟩ (by
      rintro i ys H' ⟨_, rfl⟩
      rw [List.length_map]
      refine Nat.le_trans (List.length_filter_le _ _) ?_
      rw [List.length_take]
      omega) ?_ ?_
    · rintro k ys H7 hk ⟨s7, rfl⟩
      rw [List.take_add_one, upTo_at hk, show (some (k : Int)).toList = [(k : Int)] from rfl, List.filter_append, filter_one, List.map_append]
      have eb7 := s7 _ _ eb
      have ea7 := s7 _ _ ea
      have hx7 := hxs.same s7
      walk_at "rd"
      refine ⟨two_ln, fun q1 hq1 => ?_⟩
      have f8 := Same.upd (o := .tup [V.int (0 + (k : Int)), V.int one]) hq1
      have ea8 := f8 _ _ ea7
      walk_at "rd"
      refine rd_ninP upd_same (.tup (f8 _ _ eb7) (hx7.same f8)) ?_
      rw [Int.zero_add] at *
      cases h1 : has ps (k : Int) one with
      | true =>
        have hb : besB ps one (k : Int) = false := by unfold besB; rw [h1]; exact Bool.and_false _
        walk_at "rd"
        rw [hb]
        exact ⟨s7.trans f8, by simp⟩
      | false =>
        have hb : besB ps one (k : Int) = !has ps one (k : Int) := by unfold besB; rw [h1]; exact Bool.and_true _
        walk_at "rd"
        refine ⟨two_ln, fun q2 hq2 => ?_⟩
        have f9 := f8.trans (Same.upd (o := .tup [V.int one, V.int (k : Int)]) hq2)
        have ea9 := f9 _ _ ea7
        walk_at "rd"
        refine rd_ninP upd_same (.tup (f9 _ _ eb7) (hx7.same f9)) ?_
        rw [hb]
        cases h2 : has ps one (k : Int) with
        | true =>
          walk_at "rd"
          exact ⟨s7.trans f9, by simp⟩
        | false =>
          walk_at "rd"
          exact ⟨s7.trans f9, rfl⟩
    rintro ys H7 ⟨s7, rfl⟩ pn hpn
    rw [upTo_take]
    have f8 := Same.upd (o := .lst ((besL n ps one).map V.int)) hpn
    have en : upd H7 pn (.lst ((besL n ps one).map V.int)) pn = some (.lst ((besL n ps one).map V.int)) := upd_same
    have s8 := s7.trans f8
    have E8 := E6.same s8
    clear E6 s7 hpn f8 ea eb hxs
    change tSeq _ _ _ _ (upd H7 pn (.lst ((besL n ps one).map V.int)))
    generalize upd H7 pn (.lst ((besL n ps one).map V.int)) = H8 at E8 en s8 ⊢
    walk_at "rd"
    refine ⟨_, _, _, _, rfl, .bes E8.ix ho o0 o1 (fun l H9 s9 el => ?_)⟩
    walk_at "rd"
    refine rd_neL el (s9 _ _ en) ?_
    rw [decide_eq_true rfl]
    have E9 := E8.same s9
    clear E8 en s8 s9 el
    walk_at "rd"
    refine ⟨Nat.zero_le _, fun pr hpr => ?_⟩
    have f10 := Same.upd (o := .lst []) hpr
    have E10 := E9.same f10
    have er10 : upd H9 pr (.lst []) pr = some (.lst []) := upd_same
    have npr : pr ≠ tw := E9.fr hpr
    clear E9 hpr
    generalize upd H9 pr (.lst []) = H10 at E10 er10
    clear f10
    obtain ⟨oa', ob, xs, e0, ea, eb, hxs⟩ := is_ord E10.ix
    cases e0
    walk_at "rd"
    refine ⟨_, rfl, by omega, by omega, ?_⟩
    rw [Int.toNat_natCast]
    refine fp_range (fun i σ H' => (∃ v7 v10, σ = [some (.ref a), some (.ref tw), some (.ref oa), some bad, v4, some (.int one), some (.int other), v7, some (.ref pn), some (.ref pr), v10, none, none]) ∧ SameT pr H10 H' ∧ H' pr = some (.lst ((((L2.upTo n).take i).filter fun c => prtB ps c one other).map V.int))) ⟨⟨_, _, rfl⟩, SameT.refl _ _, er10⟩ ?_ ?_
    · rintro k σ H11 hk ⟨⟨v7, v10, rfl⟩, s11, er⟩
      have nea : oa ≠ pr := ne_of ea er10 (by intro z; cases z)
      have neb : ob ≠ pr := ne_of eb er10 (by intro z; cases z)
      have ea1 := s11 _ _ ea nea
      have hx1 : Is H11 (.ref ob) (.tuple (ps.map prD)) := .tup (s11 _ _ eb neb) (prs_t er10 s11 hxs)
      walk_at "rd"
      rw [Int.zero_add] at *
      refine ⟨two_ln, fun q1 hq1 => ?_⟩
      have f1 := Same.upd (o := .tup [V.int (k : Int), V.int one]) hq1
      have ea2 := f1 _ _ ea1
      walk_at "rd"
      refine rd_inP upd_same (hx1.same f1) ?_
      walk_at "rd"
      refine ⟨two_ln, fun q2 hq2 => ?_⟩
      have f2 := f1.trans (Same.upd (o := .tup [V.int one, V.int (k : Int)]) hq2)
      have ea3 := f2 _ _ ea1
      walk_at "rd"
      refine rd_inP upd_same (hx1.same f2) ?_
      walk_at "rd"
      refine ⟨by show 2 ≤ sizeLine; decide, fun q3 hq3 => ?_⟩
      have f3 := f2.trans (Same.upd (o := .lst [V.bl (has ps (k : Int) one), V.bl (has ps one (k : Int))]) hq3)
      have e3 : upd (upd (upd H11 q1 (.tup [V.int (k : Int), V.int one])) q2 (.tup [V.int one, V.int (k : Int)])) q3 (.lst [V.bl (has ps (k : Int) one), V.bl (has ps one (k : Int))]) q3 = some (.lst [V.bl (has ps (k : Int) one), V.bl (has ps one (k : Int))]) := upd_same
      have ea4 := f3 _ _ ea1
      generalize upd (upd (upd H11 q1 (.tup [V.int (k : Int), V.int one])) q2 (.tup [V.int one, V.int (k : Int)])) q3 (.lst [V.bl (has ps (k : Int) one), V.bl (has ps one (k : Int))]) = H12 at f3 e3 ea4
      walk_at "rd"
      refine ⟨two_ln, fun q4 hq4 => ?_⟩
      have f4' := Same.upd (o := .tup [V.int (k : Int), V.int other]) hq4
      have f4 := f3.trans f4'
      have ea5 := f4 _ _ ea1
      walk_at "rd"
      refine rd_inP upd_same (hx1.same f4) ?_
      walk_at "rd"
      refine ⟨two_ln, fun q5 hq5 => ?_⟩
      have f5' := f4'.trans (Same.upd (o := .tup [V.int other, V.int (k : Int)]) hq5)
      have f5 := f3.trans f5'
      have ea6 := f5 _ _ ea1
      walk_at "rd"
      refine rd_inP upd_same (hx1.same f5) ?_
      walk_at "rd"
      refine ⟨by show 2 ≤ sizeLine; decide, fun q6 hq6 => ?_⟩
      have f6' := f5'.trans (Same.upd (o := .lst [V.bl (has ps (k : Int) other), V.bl (has ps other (k : Int))]) hq6)
      have f6 := f3.trans f6'
      refine rd_eqD (d := .list [.bool (has ps (k : Int) one), .bool (has ps one (k : Int))]) (e := .list [.bool (has ps (k : Int) other), .bool (has ps other (k : Int))]) (.lst (Rd.of (f6' _ _ e3)) (.cons (.bl _) (.cons (.bl _) .nil))) (.lst (Rd.of upd_same) (.cons (.bl _) (.cons (.bl _) .nil))) ⟨rfl, by show 1 ≤ 40; decide⟩ ⟨rfl, by show 1 ≤ 40; decide⟩ ?_
      rw [if_pos rfl, prt_eq]
      generalize upd (upd (upd H12 q4 (.tup [V.int (k : Int), V.int other])) q5 (.tup [V.int other, V.int (k : Int)])) q6 (.lst [V.bl (has ps (k : Int) other), V.bl (has ps other (k : Int))]) = H13 at f6
      have er13 := f6 _ _ er
      rw [List.take_add_one, upTo_at hk, show (some (k : Int)).toList = [(k : Int)] from rfl, List.filter_append, filter_one, List.map_append]
      cases hp : prtB ps (k : Int) one other with
      | true =>
        walk_at "rd"
        refine ⟨tyV_lst er13, ?_⟩
        walk_at "rd"
        refine rd_append er13 (small1000 (by
          rw [List.length_map]
          refine Nat.le_trans (filt_len _ _) ?_
          rw [List.length_take]
          omega)) ?_
        walk_at "rd"
        refine ⟨⟨_, _, rfl⟩, fun c u e g => ?_, upd_same⟩
        rw [upd_ne g]
        exact f6 _ _ (s11 _ _ e g)
      | false =>
        walk_at "rd"
        refine ⟨⟨_, _, rfl⟩, fun c u e g => f6 _ _ (s11 _ _ e g), ?_⟩
        rw [er13]
        simp
    rintro σ H11 ⟨⟨v7, v10, rfl⟩, s11, er⟩
    rw [upTo_take] at er
    have E11 : Eo K H11 a ns tw (.ref oa) n ps 83 := by
      obtain ⟨ts10, ht10, hl10⟩ := E10.twn
      exact ⟨E10.scr.t er10 s11, ⟨ts10, s11 _ _ ht10 (Ne.symm npr), hl10⟩, ord_tt er10 s11 E10.ix⟩
    clear E10 er10 ea eb hxs s11
    walk_at "rd"
    refine ⟨_, _, _, _, rfl, .par E11.ix ho o0 o1 p0 p1 (fun H12 s12 => ?_)⟩
    walk_at "rd"
    refine ⟨by show 1 ≤ sizeLine; decide, fun q1 hq1 => ?_⟩
    have f13 := s12.trans (Same.upd (o := .lst [V.non]) hq1)
    refine rd_cat (f13 _ _ er) upd_same (small_ln (by
      rw [List.length_map]
      have h1 := filt_len (fun c => prtB ps c one other) (L2.upTo n)
      rw [L2.upTo_len] at h1
      show _ + 1 ≤ 1000
      omega)) fun q2 hq2 => ?_
    have f14 := f13.trans (Same.upd (o := .lst (((L2.upTo n).filter fun c => prtB ps c one other).map V.int ++ [V.non])) hq2)
    walk_at "rd"
    refine rd_ixL upd_same (atI_of (i := 0) rfl (head_find _ _)) ?_
    have E14 := E11.same f14
    generalize upd (upd H12 q1 (.lst [V.non])) q2 (.lst (((L2.upTo n).filter fun c => prtB ps c one other).map V.int ++ [V.non])) = H14 at E14 f14
    clear E11 er f13 f14 hq1 hq2
    have same : ∀ Q : VK, Q (.bl false) H14 → rEqD true (prtV n ps one other) (prtV n ps one other) H14 Q := fun Q hQ => by
      unfold prtV
      cases (L2.upTo n).find? (fun c => prtB ps c one other) with
      | none => exact rd_eqD (d := .none) (e := .none) .non .non ⟨rfl, Nat.zero_le _⟩ ⟨rfl, Nat.zero_le _⟩ hQ
      | some c => exact rd_neI (by simpa using hQ)
    refine same _ ?_
    obtain ⟨ts14, ht14, hl14⟩ := E14.twn
    walk_at "rd"
    refine ⟨by show 3 ≤ sizeLine; decide, fun q1 hq1 => ?_⟩
    have f15 := Same.upd (o := .lst [V.int 5, V.int 20, V.int 999]) hq1
    walk_at "rd"
    refine ⟨a, ns, tw, ts14, q1, _, rfl, E14.scr.same f15, f15 _ _ ht14, by omega, upd_same, E14.fr hq1, by show 0 < 3; decide, fun v H15 ts15 s15 ht15 hl15 hv => ?_⟩
    obtain ⟨m, rfl, m0, m9⟩ : ∃ m : Int, v = .int m ∧ 0 < m ∧ m ≤ 999 := by
      simp only [List.mem_cons, List.not_mem_nil, or_false] at hv
      rcases hv with rfl | rfl | rfl
      · exact ⟨_, rfl, by decide, by decide⟩
      · exact ⟨_, rfl, by decide, by decide⟩
      · exact ⟨_, rfl, by decide, by decide⟩
    have E15 : Eo K H15 a ns tw (.ref oa) n ps 84 := (E14.same f15).draw s15 ht15 (by omega)
    walk_at "rd"
    refine ⟨a, ns, tw, ts15, m, rfl, E15.scr, ht15, by omega, m0, fun r4 H16 ts16 s16 ht16 hl16 r40 r41 => ?_⟩
    have E16 : Eo K H16 a ns tw (.ref oa) n ps 85 := E15.draw s16 ht16 (by omega)
    obtain ⟨st, hst⟩ : ∃ st, 1 + r4 = st := ⟨_, rfl⟩
    have st1 : 1 ≤ st := by omega
    have st9 : st ≤ 999 := by omega
    clear E14 E15 s15 s16 ht15 ht16 f15 hq1 ht14 hl14 hl15 hl16 hv
    obtain ⟨oa', ob, xs, e0, ea, eb, hxs⟩ := is_ord E16.ix
    cases e0
    walk_at "rd"
    rw [hst]
    refine ⟨_, rfl, by omega, by omega, ?_⟩
    rw [Int.toNat_natCast]
    refine lp_range (small_ln (by omega)) (fun i ys H' => Eo K H' a ns tw (.ref oa) n ps (85 + 2 * i) ∧ ∃ vals : List Int, ys = vals.map V.int ∧ vals.length = i ∧ ∀ v ∈ vals, 0 ≤ v ∧ v ≤ 9999) ⟨E16, [], rfl, rfl, fun v h => nomatch h⟩ (by
      rintro i ys H' ⟨_, vals, rfl, h, _⟩
      rw [List.length_map]
      omega) ?_ ?_
    · rintro i ys H17 hi ⟨E17, vals, rfl, lv, hvs⟩
      obtain ⟨ts17, ht17, hl17⟩ := E17.twn
      walk_at "rd"
      refine ⟨by show 3 ≤ sizeLine; decide, fun q1 hq1 => ?_⟩
      have f18 := Same.upd (o := .lst [V.int 9, V.int 50, V.int 10000]) hq1
      walk_at "rd"
      refine ⟨a, ns, tw, ts17, q1, _, rfl, E17.scr.same f18, f18 _ _ ht17, by omega, upd_same, E17.fr hq1, by show 0 < 3; decide, fun v H18 ts18 s18 ht18 hl18 hv => ?_⟩
      obtain ⟨m, rfl, m0, m9⟩ : ∃ m : Int, v = .int m ∧ 0 < m ∧ m ≤ 10000 := by
        simp only [List.mem_cons, List.not_mem_nil, or_false] at hv
        rcases hv with rfl | rfl | rfl
        · exact ⟨_, rfl, by decide, by decide⟩
        · exact ⟨_, rfl, by decide, by decide⟩
        · exact ⟨_, rfl, by decide, by decide⟩
      have E18 : Eo K H18 a ns tw (.ref oa) n ps (85 + 2 * i + 1) := (E17.same f18).draw s18 ht18 (by omega)
      walk_at "rd"
      refine ⟨a, ns, tw, ts18, m, rfl, E18.scr, ht18, by omega, m0, fun r5 H19 ts19 s19 ht19 hl19 r50 r51 => ?_⟩
      refine ⟨E18.draw s19 ht19 (by omega), vals ++ [r5], by rw [List.map_append]; rfl, by rw [List.length_append, lv]; rfl, fun v hv => ?_⟩
      rcases List.mem_append.mp hv with h | h
      · exact hvs v h
      · rcases List.mem_singleton.mp h with rfl
        omega
    rintro ys H17 ⟨E17, vals, rfl, lv, hvs⟩ pl hpl
    have f18 := Same.upd (o := .lst (vals.map V.int)) hpl
    have E18 : Eo K (upd H17 pl (.lst (vals.map V.int))) a ns tw (.ref oa) n ps 110 := (E17.same f18).up (by omega)
    have el18 : upd H17 pl (.lst (vals.map V.int)) pl = some (.lst (vals.map V.int)) := upd_same
    generalize upd H17 pl (.lst (vals.map V.int)) = H18 at E18 el18 ⊢
    clear E17 E16 f18 hpl ea eb hxs
    walk_at "rd"
    intro vt hvt
    have f19 := Same.upd (o := .tup (vals.map V.int)) hvt
    have E19 := E18.same f19
    have et19 : upd H18 vt (.tup (vals.map V.int)) vt = some (.tup (vals.map V.int)) := upd_same
    generalize upd H18 vt (.tup (vals.map V.int)) = H19 at E19 et19 ⊢
    clear E18 f19 el18 hvt
    have l1 : 1 ≤ vals.length := by omega
    have l8 : vals.length ≤ 8 := by omega
    walk_at "rd"
    refine ⟨_, _, _, _, rfl, .tld st1 st9 et19 l1 l8 hvs (fun x1 H20 s20 ix1 => ?_)⟩
    walk_at "rd"
    refine .inr ⟨vt, vals, st, rfl, s20 _ _ et19, l8, fun x2 H21 s21 ix2 => ?_⟩
    refine rd_neO (ix1.same s21) ix2 ?_
    rw [decide_eq_true ⟨rfl, rfl⟩]
    have E21 := E19.same (s20.trans s21)
    have et21 := (s20.trans s21) _ _ et19
    clear E19 et19 ix1 ix2 s20 s21
    walk_at "rd"
    refine ⟨_, _, _, _, rfl, .fit E21.ix ho st1 st9 et21 lv hvs (fun H22 s22 => ?_)⟩
    walk_at "rd"
    refine .inr ⟨vt, vals, st, rfl, s22 _ _ et21, l8, fun x2 H23 s23 ix2 => ?_⟩
    have E23 := E21.same (s22.trans s23)
    have et23 := (s22.trans s23) _ _ et21
    walk_at "rd"
    refine rd_eqO ix2 E23.ix ?_
    refine rd_neB ?_
    rw [lv, show decide (n = n ∧ toldL st vals = ps) = decide (toldL st vals = ps) by simp, show (!(decide (toldL st vals = ps) == decide (toldL st vals = ps))) = false by simp]
    clear E21 et21 ix2 s22 s23
    obtain ⟨ts23, ht23, hl23⟩ := E23.twn
    walk_at "rd"
    refine ⟨a, ns, tw, ts23, _, n, ps, st, vt, vals, rfl, E23.scr, ht23, by omega, E23.ix, ho, st1, st9, et23, lv, fun H24 => ?_⟩
    exact q H24
end
end My

set_option Elab.async false
set_option linter.all false
set_option maxRecDepth 100000
set_option maxHeartbeats 4000000
namespace My
open PySem L2
theorem of0 {P : List Value → Prop} (h : P []) (us : List Value) (e : us.length = 0) : P us := by
  cases us with
  | nil => exact h
  | cons a us => cases e
theorem of1 {P : List Value → Prop} (h : ∀ a, P [a]) (us : List Value) (e : us.length = 1) : P us := by
  cases us with
  | nil => cases e
  | cons a us => exact of0 (P := fun us => P (a :: us)) (h a) us (Nat.succ.inj e)
theorem of2 {P : List Value → Prop} (h : ∀ a b, P [a, b]) (us : List Value) (e : us.length = 2) : P us := by
  cases us with
  | nil => cases e
  | cons a us => exact of1 (P := fun us => P (a :: us)) (h a) us (Nat.succ.inj e)
theorem of3 {P : List Value → Prop} (h : ∀ a b c, P [a, b, c]) (us : List Value) (e : us.length = 3) : P us := by
  cases us with
  | nil => cases e
  | cons a us => exact of2 (P := fun us => P (a :: us)) (h a) us (Nat.succ.inj e)
theorem of4 {P : List Value → Prop} (h : ∀ a b c d, P [a, b, c, d]) (us : List Value) (e : us.length = 4) : P us := by
  cases us with
  | nil => cases e
  | cons a us => exact of3 (P := fun us => P (a :: us)) (h a) us (Nat.succ.inj e)
theorem of5 {P : List Value → Prop} (h : ∀ a b c d f, P [a, b, c, d, f]) (us : List Value) (e : us.length = 5) : P us := by
  cases us with
  | nil => cases e
  | cons a us => exact of4 (P := fun us => P (a :: us)) (h a) us (Nat.succ.inj e)
theorem mkF {K : PySem.W.Frag} {h : Heap} {mg : Str → Option Value} (X : K.In h) (G : h.Ns mainGlobals mg) {f : Str} {st : Stmt} {ps : List Str} {a : Addr} {od an : Option Addr} {sl : Array (Option Value)} {oc kV dc pm cd ct : Value}
    (hb : ∀ (kV doc pm : Value) (an : Option Addr) (cdv ct : Value) (us : List Value), us.length = ps.length → bindArgs (PySem.W.fnOf f f (defArgs st) (defBody st) (defScope st) .none kV doc pm an cdv ct) ⟨us, []⟩ = pure (ps.zip us))
    (e : PySem.W.nsIn K mainGlobals f = some (some (.ref a))) (l : K.lookup a = some ⟨oc, od, .func (PySem.W.fnOf f f (defArgs st) (defBody st) (defScope st) .none kV dc pm an cd ct), sl⟩) (c : PySem.W.codeIn K cd f = true) (k : PySem.W.keepIn K (.ref a) = true) :
    ∃ a d, mg f = some (.ref a) ∧ Fun K f f st a d ∧ Binds K d ps [] := by
  have F := fun_mk (st := st) l c k
  exact ⟨a, _, PySem.W.mg_of X G e, F, F.binds hb⟩
theorem mkN {K : PySem.W.Frag} {h : Heap} {mg : Str → Option Value} (X : K.In h) (G : h.Ns mainGlobals mg) {f : Str} (e : PySem.W.nsIn K mainGlobals f = some none) : mg f = none := PySem.W.mg_none_of X G e
theorem mkM {K : PySem.W.Frag} {h : Heap} {mg : Str → Option Value} (X : K.In h) (G : h.Ns mainGlobals mg) {f : Str} {C : Addr} (e : PySem.W.nsIn K mainGlobals f = some (some (.ref C))) : mg f = some (.ref C) := PySem.W.mg_of X G e
theorem mkC {K : PySem.W.Frag} {h : Heap} {mg : Str → Option Value} (X : K.In h) (G : h.Ns mainGlobals mg) {f : Str} {n : Int} {tk : Tok} (e : PySem.W.nsIn K mainGlobals f = some (some (.int n tk))) : ∃ tk, mg f = some (.int n tk) := ⟨tk, PySem.W.mg_of X G e⟩
theorem mkS {K : PySem.W.Frag} {h : Heap} {mg : Str → Option Value} (X : K.In h) (G : h.Ns mainGlobals mg) {f z : Str} {tk : Tok} (e : PySem.W.nsIn K mainGlobals f = some (some (.str z tk))) : ∃ tk, mg f = some (.str z tk) := ⟨tk, PySem.W.mg_of X G e⟩
theorem law_binds {K : PySem.W.Frag} {a : Addr} {fd : FuncData} (F : Fun K "law" "law" s_law a fd) (s : Shared) (v : Value) : BindsTo s fd ⟨[v], []⟩ [("_law_script", v)] := by
  obtain ⟨oc, od, kV, doc, pm, an, cdv, ct, osl, rfl, lk, hcd⟩ := F.ex
  exact .of_eq rfl
theorem walk {l : PySem.W.OpenLaw} {q : Program} {loose : List Str} {XP : (Str → Option Value) → Heap → Prop} {YP : World → Heap → Prop} {d : DefRec} {K : Params → PySem.W.Frag} (hn : l.most = some 63) (hdf : d.params.defaults = [])
    (hY : ∀ (w : World) (h : Heap), YP w h → (K w.params).In h)
    (F : ∀ (w : World) (mg : Str → Option Value) (fa : Addr) (h : Heap), (K w.params).In h → h.Ns mainGlobals mg → mg d.name = some (.ref fa) →
      ∃ fd : FuncData, (∀ (s : Shared) (u : Value), BindsTo s fd ⟨[u], []⟩ [("_law_script", u)]) ∧ ∀ base : Heap, (K w.params).In base → base.Ns mainGlobals mg → FnOk l.prog w (K w.params) mg base CX0 12 fa fd ["_law_script"] (spLaw (K w.params))) :
    PySem.W.WalkO q loose XP YP l.row.toRowW d [] (fun f vs => PySem.call f vs) :=
  L2.walk_of (n := 63) (k := 12) (x := "_law_script") (CX := fun _ => CX0) (sp := fun w => spLaw (K w.params)) hn (by decide) hdf ⟨rfl, by decide, by decide⟩ hY F (fun _ _ a ns _ hO hS => ⟨a, ns, rfl, Scr.of hO hS, fun _ => rfl⟩) fun _ _ _ _ _ z => z
theorem txt_of {K : PySem.W.Frag} {mg : Str → Option Value} (TS : (∃ a d, mg "is_whole" = some (PySem.Value.ref a) ∧ L2.Fun K "is_whole" "is_whole" My.s_is_whole a d ∧ L2.Binds K d ["value", "low", "high"] []) ∧ (∃ a d, mg "is_thing" = some (PySem.Value.ref a) ∧ L2.Fun K "is_thing" "is_thing" My.s_is_thing a d ∧ L2.Binds K d ["value", "many"] []) ∧ (∃ a d, mg "is_pair" = some (PySem.Value.ref a) ∧ L2.Fun K "is_pair" "is_pair" My.s_is_pair a d ∧ L2.Binds K d ["value", "many"] []) ∧ (∃ a d, mg "is_rising" = some (PySem.Value.ref a) ∧ L2.Fun K "is_rising" "is_rising" My.s_is_rising a d ∧ L2.Binds K d ["pairs"] []) ∧ (∃ a d, mg "is_order" = some (PySem.Value.ref a) ∧ L2.Fun K "is_order" "is_order" My.s_is_order a d ∧ L2.Binds K d ["value"] []) ∧ (∃ a d, mg "is_step" = some (PySem.Value.ref a) ∧ L2.Fun K "is_step" "is_step" My.s_is_step a d ∧ L2.Binds K d ["value"] []) ∧ (∃ a d, mg "is_numbers" = some (PySem.Value.ref a) ∧ L2.Fun K "is_numbers" "is_numbers" My.s_is_numbers a d ∧ L2.Binds K d ["value", "fewest", "most"] []) ∧ (∃ a d, mg "need_order" = some (PySem.Value.ref a) ∧ L2.Fun K "need_order" "need_order" My.s_need_order a d ∧ L2.Binds K d ["value"] []) ∧ (∃ a d, mg "need_step" = some (PySem.Value.ref a) ∧ L2.Fun K "need_step" "need_step" My.s_need_step a d ∧ L2.Binds K d ["value"] []) ∧ (∃ a d, mg "need_numbers" = some (PySem.Value.ref a) ∧ L2.Fun K "need_numbers" "need_numbers" My.s_need_numbers a d ∧ L2.Binds K d ["value", "fewest", "most"] []) ∧ (∃ a d, mg "need_thing" = some (PySem.Value.ref a) ∧ L2.Fun K "need_thing" "need_thing" My.s_need_thing a d ∧ L2.Binds K d ["value", "many"] []) ∧ (∃ a d, mg "told_pairs" = some (PySem.Value.ref a) ∧ L2.Fun K "told_pairs" "told_pairs" My.s_told_pairs a d ∧ L2.Binds K d ["step", "numbers"] []) ∧ (∃ a d, mg "told" = some (PySem.Value.ref a) ∧ L2.Fun K "told" "told" My.s_told a d ∧ L2.Binds K d ["step", "numbers"] []) ∧ (∃ a d, mg "fits" = some (PySem.Value.ref a) ∧ L2.Fun K "fits" "fits" My.s_fits a d ∧ L2.Binds K d ["order", "step", "numbers"] []) ∧ (∃ a d, mg "are_beside" = some (PySem.Value.ref a) ∧ L2.Fun K "are_beside" "are_beside" My.s_are_beside a d ∧ L2.Binds K d ["pairs", "one", "other"] []) ∧ (∃ a d, mg "beside" = some (PySem.Value.ref a) ∧ L2.Fun K "beside" "beside" My.s_beside a d ∧ L2.Binds K d ["order", "thing"] []) ∧ (∃ a d, mg "parts" = some (PySem.Value.ref a) ∧ L2.Fun K "parts" "parts" My.s_parts a d ∧ L2.Binds K d ["pairs", "thing", "one", "other"] []) ∧ (∃ a d, mg "parted" = some (PySem.Value.ref a) ∧ L2.Fun K "parted" "parted" My.s_parted a d ∧ L2.Binds K d ["order", "one", "other"] []) ∧ (∃ a d, mg "bars_as_two" = some (PySem.Value.ref a) ∧ L2.Fun K "bars_as_two" "bars_as_two" My.s_bars_as_two a d ∧ L2.Binds K d ["pairs", "a", "b", "c", "d"] []) ∧ (∃ a d, mg "bars_as_three" = some (PySem.Value.ref a) ∧ L2.Fun K "bars_as_three" "bars_as_three" My.s_bars_as_three a d ∧ L2.Binds K d ["pairs", "a", "b", "c", "d"] []) ∧ (∃ a d, mg "first_two" = some (PySem.Value.ref a) ∧ L2.Fun K "first_two" "first_two" My.s_first_two a d ∧ L2.Binds K d ["pairs"] []) ∧ (∃ a d, mg "first_three" = some (PySem.Value.ref a) ∧ L2.Fun K "first_three" "first_three" My.s_first_three a d ∧ L2.Binds K d ["many", "pairs"] []) ∧ (∃ a d, mg "bar" = some (PySem.Value.ref a) ∧ L2.Fun K "bar" "bar" My.s_bar a d ∧ L2.Binds K d ["order"] []) ∧ (∃ a d, mg "need_unbarred" = some (PySem.Value.ref a) ∧ L2.Fun K "need_unbarred" "need_unbarred" My.s_need_unbarred a d ∧ L2.Binds K d ["order"] []) ∧ (∃ a d, mg "has_form" = some (PySem.Value.ref a) ∧ L2.Fun K "has_form" "has_form" My.s_has_form a d ∧ L2.Binds K d ["thing", "many"] []) ∧ (∃ a d, mg "is_bar" = some (PySem.Value.ref a) ∧ L2.Fun K "is_bar" "is_bar" My.s_is_bar a d ∧ L2.Binds K d ["order", "thing"] []) ∧ (∃ a d, mg "demand" = some (PySem.Value.ref a) ∧ L2.Fun K "demand" "demand" My.s_demand a d ∧ L2.Binds K d ["pairs", "step", "one", "other"] []) ∧ (∃ a d, mg "all_demands" = some (PySem.Value.ref a) ∧ L2.Fun K "all_demands" "all_demands" My.s_all_demands a d ∧ L2.Binds K d ["order", "step"] []) ∧ (∃ a d, mg "raise_once" = some (PySem.Value.ref a) ∧ L2.Fun K "raise_once" "raise_once" My.s_raise_once a d ∧ L2.Binds K d ["demands", "values", "origins"] []) ∧ (∃ a d, mg "raise_all" = some (PySem.Value.ref a) ∧ L2.Fun K "raise_all" "raise_all" My.s_raise_all a d ∧ L2.Binds K d ["demands", "values", "origins"] []) ∧ (∃ a d, mg "least_values" = some (PySem.Value.ref a) ∧ L2.Fun K "least_values" "least_values" My.s_least_values a d ∧ L2.Binds K d ["many", "demands"] []) ∧ (∃ a d, mg "round_behind" = some (PySem.Value.ref a) ∧ L2.Fun K "round_behind" "round_behind" My.s_round_behind a d ∧ L2.Binds K d ["origins", "raised"] []) ∧ (∃ a d, mg "things_in_round" = some (PySem.Value.ref a) ∧ L2.Fun K "things_in_round" "things_in_round" My.s_things_in_round a d ∧ L2.Binds K d ["many", "demands"] []) ∧ (∃ a d, mg "numbers" = some (PySem.Value.ref a) ∧ L2.Fun K "numbers" "numbers" My.s_numbers a d ∧ L2.Binds K d ["order", "step"] []) ∧ (∃ a d, mg "round_of" = some (PySem.Value.ref a) ∧ L2.Fun K "round_of" "round_of" My.s_round_of a d ∧ L2.Binds K d ["order", "step"] []) ∧ (∃ a d, mg "are_unlike_things" = some (PySem.Value.ref a) ∧ L2.Fun K "are_unlike_things" "are_unlike_things" My.s_are_unlike_things a d ∧ L2.Binds K d ["value", "many"] []) ∧ (∃ a d, mg "come_above_nothing" = some (PySem.Value.ref a) ∧ L2.Fun K "come_above_nothing" "come_above_nothing" My.s_come_above_nothing a d ∧ L2.Binds K d ["demands"] []) ∧ (∃ a d, mg "is_round" = some (PySem.Value.ref a) ∧ L2.Fun K "is_round" "is_round" My.s_is_round a d ∧ L2.Binds K d ["order", "step", "thing"] []) ∧ (∃ a d, mg "least" = some (PySem.Value.ref a) ∧ L2.Fun K "least" "least" My.s_least a d ∧ L2.Binds K d ["order"] []) ∧ (∃ a d, mg "least_step" = some (PySem.Value.ref a) ∧ L2.Fun K "least_step" "least_step" My.s_least_step a d ∧ L2.Binds K d ["order"] []) ∧ (∃ a d, mg "height" = some (PySem.Value.ref a) ∧ L2.Fun K "height" "height" My.s_height a d ∧ L2.Binds K d ["pairs", "thing"] []) ∧ (∃ a d, mg "things_at" = some (PySem.Value.ref a) ∧ L2.Fun K "things_at" "things_at" My.s_things_at a d ∧ L2.Binds K d ["heights", "level"] []) ∧ (∃ a d, mg "row" = some (PySem.Value.ref a) ∧ L2.Fun K "row" "row" My.s_row a d ∧ L2.Binds K d ["order"] []) ∧ (∃ a d, mg "longest" = some (PySem.Value.ref a) ∧ L2.Fun K "longest" "longest" My.s_longest a d ∧ L2.Binds K d ["order"] []) ∧ (∃ a d, mg "_law_cell_at" = some (PySem.Value.ref a) ∧ L2.Fun K "_law_cell_at" "_law_cell_at" My.s__law_cell_at a d ∧ L2.Binds K d ["_law_script", "_law_k"] []) ∧ (∃ a d, mg "_law_mixed" = some (PySem.Value.ref a) ∧ L2.Fun K "_law_mixed" "_law_mixed" My.s__law_mixed a d ∧ L2.Binds K d ["_law_script", "_law_k", "_law_many"] []) ∧ (∃ a d, mg "_law_draw" = some (PySem.Value.ref a) ∧ L2.Fun K "_law_draw" "_law_draw" My.s__law_draw a d ∧ L2.Binds K d ["_law_script", "_law_town", "_law_many"] []) ∧ (∃ a d, mg "_law_pick" = some (PySem.Value.ref a) ∧ L2.Fun K "_law_pick" "_law_pick" My.s__law_pick a d ∧ L2.Binds K d ["_law_script", "_law_town", "_law_some"] []) ∧ (∃ a d, mg "_law_by" = some (PySem.Value.ref a) ∧ L2.Fun K "_law_by" "_law_by" My.s__law_by a d ∧ L2.Binds K d ["_law_step", "_law_longs"] []) ∧ (∃ a d, mg "_law_order" = some (PySem.Value.ref a) ∧ L2.Fun K "_law_order" "_law_order" My.s__law_order a d ∧ L2.Binds K d ["_law_script", "_law_town", "_law_most"] []) ∧ (∃ a d, mg "_law_which" = some (PySem.Value.ref a) ∧ L2.Fun K "_law_which" "_law_which" My.s__law_which a d ∧ L2.Binds K d ["_law_e"] []) ∧ (∃ a d, mg "_law_ask" = some (PySem.Value.ref a) ∧ L2.Fun K "_law_ask" "_law_ask" My.s__law_ask a d ∧ L2.Binds K d ["_law_what", "_law_order_here", "_law_one", "_law_other"] []) ∧ (∃ a d, mg "_law_whole" = some (PySem.Value.ref a) ∧ L2.Fun K "_law_whole" "_law_whole" My.s__law_whole a d ∧ L2.Binds K d ["_law_thing", "_law_low", "_law_most"] []) ∧ (∃ a d, mg "_law_is_order" = some (PySem.Value.ref a) ∧ L2.Fun K "_law_is_order" "_law_is_order" My.s__law_is_order a d ∧ L2.Binds K d ["_law_thing"] []) ∧ (∃ a d, mg "_law_spoilt" = some (PySem.Value.ref a) ∧ L2.Fun K "_law_spoilt" "_law_spoilt" My.s__law_spoilt a d ∧ L2.Binds K d ["_law_script", "_law_town", "_law_thing"] []) ∧ (∃ a d, mg "_law_refusals" = some (PySem.Value.ref a) ∧ L2.Fun K "_law_refusals" "_law_refusals" My.s__law_refusals a d ∧ L2.Binds K d ["_law_script", "_law_town", "_law_order_here", "_law_step", "_law_longs"] []) ∧ (∃ a d, mg "law" = some (PySem.Value.ref a) ∧ L2.Fun K "law" "law" My.s_law a d ∧ L2.Binds K d ["_law_script"] []) ∧ (mg "ValueError" = none) ∧ (mg "all" = none) ∧ (mg "bool" = none) ∧ (mg "int" = none) ∧ (mg "isinstance" = none) ∧ (mg "len" = none) ∧ (mg "list" = none) ∧ (mg "range" = none) ∧ (mg "reversed" = none) ∧ (mg "set" = none) ∧ (mg "sorted" = none) ∧ (mg "str" = none) ∧ (mg "sum" = none) ∧ (mg "tuple" = none) ∧ (mg "zip" = none) ∧ (∃ c_Barred c_Full c_NoCount c_NoNumbers c_NoOrder c_NoStep c_NoTelling c_NoThing c_Nothing c_OrderError : PySem.Addr, My.XF K mg c_Barred c_Full c_NoCount c_NoNumbers c_NoOrder c_NoStep c_NoTelling c_NoThing c_Nothing c_OrderError) ∧ (∃ tk, mg "MOST_NUMBER" = some (PySem.Value.int 9999 tk)) ∧ (∃ tk, mg "MOST_STEP" = some (PySem.Value.int 999 tk)) ∧ (∃ tk, mg "MOST_THINGS" = some (PySem.Value.int 8 tk))) : ∃ t : Ad, Txt K mg t := by
  obtain ⟨⟨a0, d0, m0, F0, b0⟩, ⟨a1, d1, m1, F1, b1⟩, ⟨a2, d2, m2, F2, b2⟩, ⟨a3, d3, m3, F3, b3⟩, ⟨a4, d4, m4, F4, b4⟩, ⟨a5, d5, m5, F5, b5⟩, ⟨a6, d6, m6, F6, b6⟩, ⟨a7, d7, m7, F7, b7⟩, ⟨a8, d8, m8, F8, b8⟩, ⟨a9, d9, m9, F9, b9⟩, ⟨a10, d10, m10, F10, b10⟩, ⟨a11, d11, m11, F11, b11⟩, ⟨a12, d12, m12, F12, b12⟩, ⟨a13, d13, m13, F13, b13⟩, ⟨a14, d14, m14, F14, b14⟩, ⟨a15, d15, m15, F15, b15⟩, ⟨a16, d16, m16, F16, b16⟩, ⟨a17, d17, m17, F17, b17⟩, ⟨a18, d18, m18, F18, b18⟩, ⟨a19, d19, m19, F19, b19⟩, ⟨a20, d20, m20, F20, b20⟩, ⟨a21, d21, m21, F21, b21⟩, ⟨a22, d22, m22, F22, b22⟩, ⟨a23, d23, m23, F23, b23⟩, ⟨a24, d24, m24, F24, b24⟩, ⟨a25, d25, m25, F25, b25⟩, ⟨a26, d26, m26, F26, b26⟩, ⟨a27, d27, m27, F27, b27⟩, ⟨a28, d28, m28, F28, b28⟩, ⟨a29, d29, m29, F29, b29⟩, ⟨a30, d30, m30, F30, b30⟩, ⟨a31, d31, m31, F31, b31⟩, ⟨a32, d32, m32, F32, b32⟩, ⟨a33, d33, m33, F33, b33⟩, ⟨a34, d34, m34, F34, b34⟩, ⟨a35, d35, m35, F35, b35⟩, ⟨a36, d36, m36, F36, b36⟩, ⟨a37, d37, m37, F37, b37⟩, ⟨a38, d38, m38, F38, b38⟩, ⟨a39, d39, m39, F39, b39⟩, ⟨a40, d40, m40, F40, b40⟩, ⟨a41, d41, m41, F41, b41⟩, ⟨a42, d42, m42, F42, b42⟩, ⟨a43, d43, m43, F43, b43⟩, ⟨a44, d44, m44, F44, b44⟩, ⟨a45, d45, m45, F45, b45⟩, ⟨a46, d46, m46, F46, b46⟩, ⟨a47, d47, m47, F47, b47⟩, ⟨a48, d48, m48, F48, b48⟩, ⟨a49, d49, m49, F49, b49⟩, ⟨a50, d50, m50, F50, b50⟩, ⟨a51, d51, m51, F51, b51⟩, ⟨a52, d52, m52, F52, b52⟩, ⟨a53, d53, m53, F53, b53⟩, ⟨a54, d54, m54, F54, b54⟩, ⟨a55, d55, m55, F55, b55⟩, ⟨a56, d56, m56, F56, b56⟩, N0, N1, N2, N3, N4, N5, N6, N7, N8, N9, N10, N11, N12, N13, N14, ⟨c_Barred, c_Full, c_NoCount, c_NoNumbers, c_NoOrder, c_NoStep, c_NoTelling, c_NoThing, c_Nothing, c_OrderError, X⟩, C0, C1, C2⟩ := TS
  exact ⟨⟨a0, d0, a1, d1, a2, d2, a3, d3, a4, d4, a5, d5, a6, d6, a7, d7, a8, d8, a9, d9, a10, d10, a11, d11, a12, d12, a13, d13, a14, d14, a15, d15, a16, d16, a17, d17, a18, d18, a19, d19, a20, d20, a21, d21, a22, d22, a23, d23, a24, d24, a25, d25, a26, d26, a27, d27, a28, d28, a29, d29, a30, d30, a31, d31, a32, d32, a33, d33, a34, d34, a35, d35, a36, d36, a37, d37, a38, d38, a39, d39, a40, d40, a41, d41, a42, d42, a43, d43, a44, d44, a45, d45, a46, d46, a47, d47, a48, d48, a49, d49, a50, d50, a51, d51, a52, d52, a53, d53, a54, d54, a55, d55, a56, d56, c_Barred, c_Full, c_NoCount, c_NoNumbers, c_NoOrder, c_NoStep, c_NoTelling, c_NoThing, c_Nothing, c_OrderError⟩, ⟨m0, F0, b0, m1, F1, b1, m2, F2, b2, m3, F3, b3, m4, F4, b4, m5, F5, b5, m6, F6, b6, m7, F7, b7, m8, F8, b8, m9, F9, b9, m10, F10, b10, m11, F11, b11, m12, F12, b12, m13, F13, b13, m14, F14, b14, m15, F15, b15, m16, F16, b16, m17, F17, b17, m18, F18, b18, m19, F19, b19, m20, F20, b20, m21, F21, b21, m22, F22, b22, m23, F23, b23, m24, F24, b24, m25, F25, b25, m26, F26, b26, m27, F27, b27, m28, F28, b28, m29, F29, b29, m30, F30, b30, m31, F31, b31, m32, F32, b32, m33, F33, b33, m34, F34, b34, m35, F35, b35, m36, F36, b36, m37, F37, b37, m38, F38, b38, m39, F39, b39, m40, F40, b40, m41, F41, b41, m42, F42, b42, m43, F43, b43, m44, F44, b44, m45, F45, b45, m46, F46, b46, m47, F47, b47, m48, F48, b48, m49, F49, b49, m50, F50, b50, m51, F51, b51, m52, F52, b52, m53, F53, b53, m54, F54, b54, m55, F55, b55, m56, F56, b56, N0, N1, N2, N3, N4, N5, N6, N7, N8, N9, N10, N11, N12, N13, N14, X.g_Barred, X.Z_Barred, X.v_Barred, X.x_Barred, X.q_Barred_Full, X.q_Barred_NoCount, X.q_Barred_NoNumbers, X.q_Barred_NoOrder, X.q_Barred_NoStep, X.q_Barred_NoTelling, X.q_Barred_NoThing, X.q_Barred_Nothing, X.g_Full, X.g_NoCount, X.g_NoNumbers, X.Z_NoNumbers, X.v_NoNumbers, X.x_NoNumbers, X.q_NoNumbers_Barred, X.q_NoNumbers_Full, X.q_NoNumbers_NoCount, X.q_NoNumbers_NoOrder, X.q_NoNumbers_NoStep, X.q_NoNumbers_NoTelling, X.q_NoNumbers_NoThing, X.q_NoNumbers_Nothing, X.g_NoOrder, X.Z_NoOrder, X.v_NoOrder, X.x_NoOrder, X.q_NoOrder_Barred, X.q_NoOrder_Full, X.q_NoOrder_NoCount, X.q_NoOrder_NoNumbers, X.q_NoOrder_NoStep, X.q_NoOrder_NoTelling, X.q_NoOrder_NoThing, X.q_NoOrder_Nothing, X.g_NoStep, X.Z_NoStep, X.v_NoStep, X.x_NoStep, X.q_NoStep_Barred, X.q_NoStep_Full, X.q_NoStep_NoCount, X.q_NoStep_NoNumbers, X.q_NoStep_NoOrder, X.q_NoStep_NoTelling, X.q_NoStep_NoThing, X.q_NoStep_Nothing, X.g_NoTelling, X.g_NoThing, X.Z_NoThing, X.v_NoThing, X.x_NoThing, X.q_NoThing_Barred, X.q_NoThing_Full, X.q_NoThing_NoCount, X.q_NoThing_NoNumbers, X.q_NoThing_NoOrder, X.q_NoThing_NoStep, X.q_NoThing_NoTelling, X.q_NoThing_Nothing, X.g_Nothing, X.g_OrderError, C0, C1, C2⟩⟩
end My
open PySem PySem.W PyProof.Rows
def PySem.W.Fast.tw8548376558579320278 : Nat := 0
def PySem.W.Fast.tw6793677361131120598 : Nat := 0
def PySem.W.Fast.tw9477805088810816118 : Nat := 0
def PySem.W.Fast.tw18344441329083616722 : Nat := 0
def PySem.W.Fast.tw9952406946103837392 : Nat := 0
def PySem.W.Fast.tw742335252709883003 : Nat := 0
def PySem.W.Fast.tw11107725925013201227 : Nat := 0
def PySem.W.Fast.tw3066639458491165577 : Nat := 0
def PySem.W.Fast.tw16539921588198518647 : Nat := 0
def PySem.W.Fast.tw4968191354985222292 : Nat := 0
def PySem.W.Fast.tw2711035487980854463 : Nat := 0
def PySem.W.Fast.tw16711000728502793998 : Nat := 0
def PySem.W.Fast.tw25950616908823269 : Nat := 0
def PySem.W.Fast.tw11861035986303548976 : Nat := 0
def PySem.W.Fast.tw6402610806192872887 : Nat := 0
def PySem.W.Fast.tw2384716213796311169 : Nat := 0
def PySem.W.Fast.tw2964300388095234853 : Nat := 0
def PySem.W.Fast.tw11439595944511461801 : Nat := 0
def PySem.W.Fast.tw1005444290655919404 : Nat := 0
def PySem.W.Fast.tw8126209940402142209 : Nat := 0
def PySem.W.Fast.tw17829498185886839013 : Nat := 0
def PySem.W.Fast.tw10207200100394480169 : Nat := 0
def PySem.W.Fast.tw6227826441597538424 : Nat := 0
def PySem.W.Fast.tw17377023429145481706 : Nat := 0
def PySem.W.Fast.tw16177091383666103336 : Nat := 0
def PySem.W.Fast.tw13123311002446364754 : Nat := 0
def PySem.W.Fast.tw7956216893522768445 : Nat := 0
def PySem.W.Fast.tw18308342332608263789 : Nat := 0
def PySem.W.Fast.tw7351617667736361318 : Nat := 0
def PySem.W.Fast.tw14061302164666445764 : Nat := 0
def PySem.W.Fast.tw3247844224931375859 : Nat := 0
def PySem.W.Fast.tw13928894827980968298 : Nat := 0
def PySem.W.Fast.tw7236446827575342633 : Nat := 0
def PySem.W.Fast.tw2292184682376053792 : Nat := 0
def PySem.W.Fast.tw12613603153053780877 : Nat := 0
def PySem.W.Fast.tw2805904624371965278 : Nat := 0
def PySem.W.Fast.tw13351291452663443050 : Nat := 0
def PySem.W.Fast.tw8345025335936230025 : Nat := 0
def PySem.W.Fast.tw6080094111418379077 : Nat := 0
def PySem.W.Fast.tw12159210867359184394 : Nat := 0
def PySem.W.Fast.tw11532083978846936727 : Nat := 0
def PySem.W.Fast.tw4489700622261254028 : Nat := 0
def PySem.W.Fast.tw17061156765400040246 : Nat := 0
def PySem.W.Fast.tw11925212070520070982 : Nat := 0
def PySem.W.Fast.tw18219790452934309880 : Nat := 0
def PySem.W.Fast.tw7743494931397486641 : Nat := 0
def PySem.W.Fast.tw2463112200576339410 : Nat := 0
def PySem.W.Fast.tw5535841088527558013 : Nat := 0
set_option maxRecDepth 100000 in
set_option maxHeartbeats 0 in
theorem PySem.Challenge.cw_noticed_k01_orders_holds : PySem.Challenge.rw_noticed_k01_orders.Holds := by
  w_on; o_law; k_head; (case hw => w_witness2)
  k_fill
  refine My.walk (l := PySem.Challenge.rw_noticed_k01_orders) rfl rfl (fun w h Y => PySem.W.kIn_of Y) ?F
  case F =>
    intro w mg fa h KX G hmg
    have TS : (∃ a d, mg "is_whole" = some (PySem.Value.ref a) ∧ L2.Fun (L2.KOf KX) "is_whole" "is_whole" My.s_is_whole a d ∧ L2.Binds (L2.KOf KX) d ["value", "low", "high"] []) ∧ (∃ a d, mg "is_thing" = some (PySem.Value.ref a) ∧ L2.Fun (L2.KOf KX) "is_thing" "is_thing" My.s_is_thing a d ∧ L2.Binds (L2.KOf KX) d ["value", "many"] []) ∧ (∃ a d, mg "is_pair" = some (PySem.Value.ref a) ∧ L2.Fun (L2.KOf KX) "is_pair" "is_pair" My.s_is_pair a d ∧ L2.Binds (L2.KOf KX) d ["value", "many"] []) ∧ (∃ a d, mg "is_rising" = some (PySem.Value.ref a) ∧ L2.Fun (L2.KOf KX) "is_rising" "is_rising" My.s_is_rising a d ∧ L2.Binds (L2.KOf KX) d ["pairs"] []) ∧ (∃ a d, mg "is_order" = some (PySem.Value.ref a) ∧ L2.Fun (L2.KOf KX) "is_order" "is_order" My.s_is_order a d ∧ L2.Binds (L2.KOf KX) d ["value"] []) ∧ (∃ a d, mg "is_step" = some (PySem.Value.ref a) ∧ L2.Fun (L2.KOf KX) "is_step" "is_step" My.s_is_step a d ∧ L2.Binds (L2.KOf KX) d ["value"] []) ∧ (∃ a d, mg "is_numbers" = some (PySem.Value.ref a) ∧ L2.Fun (L2.KOf KX) "is_numbers" "is_numbers" My.s_is_numbers a d ∧ L2.Binds (L2.KOf KX) d ["value", "fewest", "most"] []) ∧ (∃ a d, mg "need_order" = some (PySem.Value.ref a) ∧ L2.Fun (L2.KOf KX) "need_order" "need_order" My.s_need_order a d ∧ L2.Binds (L2.KOf KX) d ["value"] []) ∧ (∃ a d, mg "need_step" = some (PySem.Value.ref a) ∧ L2.Fun (L2.KOf KX) "need_step" "need_step" My.s_need_step a d ∧ L2.Binds (L2.KOf KX) d ["value"] []) ∧ (∃ a d, mg "need_numbers" = some (PySem.Value.ref a) ∧ L2.Fun (L2.KOf KX) "need_numbers" "need_numbers" My.s_need_numbers a d ∧ L2.Binds (L2.KOf KX) d ["value", "fewest", "most"] []) ∧ (∃ a d, mg "need_thing" = some (PySem.Value.ref a) ∧ L2.Fun (L2.KOf KX) "need_thing" "need_thing" My.s_need_thing a d ∧ L2.Binds (L2.KOf KX) d ["value", "many"] []) ∧ (∃ a d, mg "told_pairs" = some (PySem.Value.ref a) ∧ L2.Fun (L2.KOf KX) "told_pairs" "told_pairs" My.s_told_pairs a d ∧ L2.Binds (L2.KOf KX) d ["step", "numbers"] []) ∧ (∃ a d, mg "told" = some (PySem.Value.ref a) ∧ L2.Fun (L2.KOf KX) "told" "told" My.s_told a d ∧ L2.Binds (L2.KOf KX) d ["step", "numbers"] []) ∧ (∃ a d, mg "fits" = some (PySem.Value.ref a) ∧ L2.Fun (L2.KOf KX) "fits" "fits" My.s_fits a d ∧ L2.Binds (L2.KOf KX) d ["order", "step", "numbers"] []) ∧ (∃ a d, mg "are_beside" = some (PySem.Value.ref a) ∧ L2.Fun (L2.KOf KX) "are_beside" "are_beside" My.s_are_beside a d ∧ L2.Binds (L2.KOf KX) d ["pairs", "one", "other"] []) ∧ (∃ a d, mg "beside" = some (PySem.Value.ref a) ∧ L2.Fun (L2.KOf KX) "beside" "beside" My.s_beside a d ∧ L2.Binds (L2.KOf KX) d ["order", "thing"] []) ∧ (∃ a d, mg "parts" = some (PySem.Value.ref a) ∧ L2.Fun (L2.KOf KX) "parts" "parts" My.s_parts a d ∧ L2.Binds (L2.KOf KX) d ["pairs", "thing", "one", "other"] []) ∧ (∃ a d, mg "parted" = some (PySem.Value.ref a) ∧ L2.Fun (L2.KOf KX) "parted" "parted" My.s_parted a d ∧ L2.Binds (L2.KOf KX) d ["order", "one", "other"] []) ∧ (∃ a d, mg "bars_as_two" = some (PySem.Value.ref a) ∧ L2.Fun (L2.KOf KX) "bars_as_two" "bars_as_two" My.s_bars_as_two a d ∧ L2.Binds (L2.KOf KX) d ["pairs", "a", "b", "c", "d"] []) ∧ (∃ a d, mg "bars_as_three" = some (PySem.Value.ref a) ∧ L2.Fun (L2.KOf KX) "bars_as_three" "bars_as_three" My.s_bars_as_three a d ∧ L2.Binds (L2.KOf KX) d ["pairs", "a", "b", "c", "d"] []) ∧ (∃ a d, mg "first_two" = some (PySem.Value.ref a) ∧ L2.Fun (L2.KOf KX) "first_two" "first_two" My.s_first_two a d ∧ L2.Binds (L2.KOf KX) d ["pairs"] []) ∧ (∃ a d, mg "first_three" = some (PySem.Value.ref a) ∧ L2.Fun (L2.KOf KX) "first_three" "first_three" My.s_first_three a d ∧ L2.Binds (L2.KOf KX) d ["many", "pairs"] []) ∧ (∃ a d, mg "bar" = some (PySem.Value.ref a) ∧ L2.Fun (L2.KOf KX) "bar" "bar" My.s_bar a d ∧ L2.Binds (L2.KOf KX) d ["order"] []) ∧ (∃ a d, mg "need_unbarred" = some (PySem.Value.ref a) ∧ L2.Fun (L2.KOf KX) "need_unbarred" "need_unbarred" My.s_need_unbarred a d ∧ L2.Binds (L2.KOf KX) d ["order"] []) ∧ (∃ a d, mg "has_form" = some (PySem.Value.ref a) ∧ L2.Fun (L2.KOf KX) "has_form" "has_form" My.s_has_form a d ∧ L2.Binds (L2.KOf KX) d ["thing", "many"] []) ∧ (∃ a d, mg "is_bar" = some (PySem.Value.ref a) ∧ L2.Fun (L2.KOf KX) "is_bar" "is_bar" My.s_is_bar a d ∧ L2.Binds (L2.KOf KX) d ["order", "thing"] []) ∧ (∃ a d, mg "demand" = some (PySem.Value.ref a) ∧ L2.Fun (L2.KOf KX) "demand" "demand" My.s_demand a d ∧ L2.Binds (L2.KOf KX) d ["pairs", "step", "one", "other"] []) ∧ (∃ a d, mg "all_demands" = some (PySem.Value.ref a) ∧ L2.Fun (L2.KOf KX) "all_demands" "all_demands" My.s_all_demands a d ∧ L2.Binds (L2.KOf KX) d ["order", "step"] []) ∧ (∃ a d, mg "raise_once" = some (PySem.Value.ref a) ∧ L2.Fun (L2.KOf KX) "raise_once" "raise_once" My.s_raise_once a d ∧ L2.Binds (L2.KOf KX) d ["demands", "values", "origins"] []) ∧ (∃ a d, mg "raise_all" = some (PySem.Value.ref a) ∧ L2.Fun (L2.KOf KX) "raise_all" "raise_all" My.s_raise_all a d ∧ L2.Binds (L2.KOf KX) d ["demands", "values", "origins"] []) ∧ (∃ a d, mg "least_values" = some (PySem.Value.ref a) ∧ L2.Fun (L2.KOf KX) "least_values" "least_values" My.s_least_values a d ∧ L2.Binds (L2.KOf KX) d ["many", "demands"] []) ∧ (∃ a d, mg "round_behind" = some (PySem.Value.ref a) ∧ L2.Fun (L2.KOf KX) "round_behind" "round_behind" My.s_round_behind a d ∧ L2.Binds (L2.KOf KX) d ["origins", "raised"] []) ∧ (∃ a d, mg "things_in_round" = some (PySem.Value.ref a) ∧ L2.Fun (L2.KOf KX) "things_in_round" "things_in_round" My.s_things_in_round a d ∧ L2.Binds (L2.KOf KX) d ["many", "demands"] []) ∧ (∃ a d, mg "numbers" = some (PySem.Value.ref a) ∧ L2.Fun (L2.KOf KX) "numbers" "numbers" My.s_numbers a d ∧ L2.Binds (L2.KOf KX) d ["order", "step"] []) ∧ (∃ a d, mg "round_of" = some (PySem.Value.ref a) ∧ L2.Fun (L2.KOf KX) "round_of" "round_of" My.s_round_of a d ∧ L2.Binds (L2.KOf KX) d ["order", "step"] []) ∧ (∃ a d, mg "are_unlike_things" = some (PySem.Value.ref a) ∧ L2.Fun (L2.KOf KX) "are_unlike_things" "are_unlike_things" My.s_are_unlike_things a d ∧ L2.Binds (L2.KOf KX) d ["value", "many"] []) ∧ (∃ a d, mg "come_above_nothing" = some (PySem.Value.ref a) ∧ L2.Fun (L2.KOf KX) "come_above_nothing" "come_above_nothing" My.s_come_above_nothing a d ∧ L2.Binds (L2.KOf KX) d ["demands"] []) ∧ (∃ a d, mg "is_round" = some (PySem.Value.ref a) ∧ L2.Fun (L2.KOf KX) "is_round" "is_round" My.s_is_round a d ∧ L2.Binds (L2.KOf KX) d ["order", "step", "thing"] []) ∧ (∃ a d, mg "least" = some (PySem.Value.ref a) ∧ L2.Fun (L2.KOf KX) "least" "least" My.s_least a d ∧ L2.Binds (L2.KOf KX) d ["order"] []) ∧ (∃ a d, mg "least_step" = some (PySem.Value.ref a) ∧ L2.Fun (L2.KOf KX) "least_step" "least_step" My.s_least_step a d ∧ L2.Binds (L2.KOf KX) d ["order"] []) ∧ (∃ a d, mg "height" = some (PySem.Value.ref a) ∧ L2.Fun (L2.KOf KX) "height" "height" My.s_height a d ∧ L2.Binds (L2.KOf KX) d ["pairs", "thing"] []) ∧ (∃ a d, mg "things_at" = some (PySem.Value.ref a) ∧ L2.Fun (L2.KOf KX) "things_at" "things_at" My.s_things_at a d ∧ L2.Binds (L2.KOf KX) d ["heights", "level"] []) ∧ (∃ a d, mg "row" = some (PySem.Value.ref a) ∧ L2.Fun (L2.KOf KX) "row" "row" My.s_row a d ∧ L2.Binds (L2.KOf KX) d ["order"] []) ∧ (∃ a d, mg "longest" = some (PySem.Value.ref a) ∧ L2.Fun (L2.KOf KX) "longest" "longest" My.s_longest a d ∧ L2.Binds (L2.KOf KX) d ["order"] []) ∧ (∃ a d, mg "_law_cell_at" = some (PySem.Value.ref a) ∧ L2.Fun (L2.KOf KX) "_law_cell_at" "_law_cell_at" My.s__law_cell_at a d ∧ L2.Binds (L2.KOf KX) d ["_law_script", "_law_k"] []) ∧ (∃ a d, mg "_law_mixed" = some (PySem.Value.ref a) ∧ L2.Fun (L2.KOf KX) "_law_mixed" "_law_mixed" My.s__law_mixed a d ∧ L2.Binds (L2.KOf KX) d ["_law_script", "_law_k", "_law_many"] []) ∧ (∃ a d, mg "_law_draw" = some (PySem.Value.ref a) ∧ L2.Fun (L2.KOf KX) "_law_draw" "_law_draw" My.s__law_draw a d ∧ L2.Binds (L2.KOf KX) d ["_law_script", "_law_town", "_law_many"] []) ∧ (∃ a d, mg "_law_pick" = some (PySem.Value.ref a) ∧ L2.Fun (L2.KOf KX) "_law_pick" "_law_pick" My.s__law_pick a d ∧ L2.Binds (L2.KOf KX) d ["_law_script", "_law_town", "_law_some"] []) ∧ (∃ a d, mg "_law_by" = some (PySem.Value.ref a) ∧ L2.Fun (L2.KOf KX) "_law_by" "_law_by" My.s__law_by a d ∧ L2.Binds (L2.KOf KX) d ["_law_step", "_law_longs"] []) ∧ (∃ a d, mg "_law_order" = some (PySem.Value.ref a) ∧ L2.Fun (L2.KOf KX) "_law_order" "_law_order" My.s__law_order a d ∧ L2.Binds (L2.KOf KX) d ["_law_script", "_law_town", "_law_most"] []) ∧ (∃ a d, mg "_law_which" = some (PySem.Value.ref a) ∧ L2.Fun (L2.KOf KX) "_law_which" "_law_which" My.s__law_which a d ∧ L2.Binds (L2.KOf KX) d ["_law_e"] []) ∧ (∃ a d, mg "_law_ask" = some (PySem.Value.ref a) ∧ L2.Fun (L2.KOf KX) "_law_ask" "_law_ask" My.s__law_ask a d ∧ L2.Binds (L2.KOf KX) d ["_law_what", "_law_order_here", "_law_one", "_law_other"] []) ∧ (∃ a d, mg "_law_whole" = some (PySem.Value.ref a) ∧ L2.Fun (L2.KOf KX) "_law_whole" "_law_whole" My.s__law_whole a d ∧ L2.Binds (L2.KOf KX) d ["_law_thing", "_law_low", "_law_most"] []) ∧ (∃ a d, mg "_law_is_order" = some (PySem.Value.ref a) ∧ L2.Fun (L2.KOf KX) "_law_is_order" "_law_is_order" My.s__law_is_order a d ∧ L2.Binds (L2.KOf KX) d ["_law_thing"] []) ∧ (∃ a d, mg "_law_spoilt" = some (PySem.Value.ref a) ∧ L2.Fun (L2.KOf KX) "_law_spoilt" "_law_spoilt" My.s__law_spoilt a d ∧ L2.Binds (L2.KOf KX) d ["_law_script", "_law_town", "_law_thing"] []) ∧ (∃ a d, mg "_law_refusals" = some (PySem.Value.ref a) ∧ L2.Fun (L2.KOf KX) "_law_refusals" "_law_refusals" My.s__law_refusals a d ∧ L2.Binds (L2.KOf KX) d ["_law_script", "_law_town", "_law_order_here", "_law_step", "_law_longs"] []) ∧ (∃ a d, mg "law" = some (PySem.Value.ref a) ∧ L2.Fun (L2.KOf KX) "law" "law" My.s_law a d ∧ L2.Binds (L2.KOf KX) d ["_law_script"] []) ∧ (mg "ValueError" = none) ∧ (mg "all" = none) ∧ (mg "bool" = none) ∧ (mg "int" = none) ∧ (mg "isinstance" = none) ∧ (mg "len" = none) ∧ (mg "list" = none) ∧ (mg "range" = none) ∧ (mg "reversed" = none) ∧ (mg "set" = none) ∧ (mg "sorted" = none) ∧ (mg "str" = none) ∧ (mg "sum" = none) ∧ (mg "tuple" = none) ∧ (mg "zip" = none) ∧ (∃ c_Barred c_Full c_NoCount c_NoNumbers c_NoOrder c_NoStep c_NoTelling c_NoThing c_Nothing c_OrderError : PySem.Addr, My.XF (L2.KOf KX) mg c_Barred c_Full c_NoCount c_NoNumbers c_NoOrder c_NoStep c_NoTelling c_NoThing c_Nothing c_OrderError) ∧ (∃ tk, mg "MOST_NUMBER" = some (PySem.Value.int 9999 tk)) ∧ (∃ tk, mg "MOST_STEP" = some (PySem.Value.int 999 tk)) ∧ (∃ tk, mg "MOST_THINGS" = some (PySem.Value.int 8 tk)) := by
      refine' ⟨?t0, ?t1, ?t2, ?t3, ?t4, ?t5, ?t6, ?t7, ?t8, ?t9, ?t10, ?t11, ?t12, ?t13, ?t14, ?t15, ?t16, ?t17, ?t18, ?t19, ?t20, ?t21, ?t22, ?t23, ?t24, ?t25, ?t26, ?t27, ?t28, ?t29, ?t30, ?t31, ?t32, ?t33, ?t34, ?t35, ?t36, ?t37, ?t38, ?t39, ?t40, ?t41, ?t42, ?t43, ?t44, ?t45, ?t46, ?t47, ?t48, ?t49, ?t50, ?t51, ?t52, ?t53, ?t54, ?t55, ?t56, ?t57, ?t58, ?t59, ?t60, ?t61, ?t62, ?t63, ?t64, ?t65, ?t66, ?t67, ?t68, ?t69, ?t70, ?t71, ?t72, ?t73, ?t74, ?t75⟩
      case t0 =>
        dsimp only [L2.KOf]
        refine' My.mkF KX G ?hb ?e ?l ?c ?k
        (case hb => exact fun _ _ _ _ _ _ => My.of3 (fun _ _ _ => rfl))
        (case e => k_is); (case l => k_is); (case c => k_is); (case k => k_is)
      case t1 =>
        dsimp only [L2.KOf]
        refine' My.mkF KX G ?hb ?e ?l ?c ?k
        (case hb => exact fun _ _ _ _ _ _ => My.of2 (fun _ _ => rfl))
        (case e => k_is); (case l => k_is); (case c => k_is); (case k => k_is)
      case t2 =>
        dsimp only [L2.KOf]
        refine' My.mkF KX G ?hb ?e ?l ?c ?k
        (case hb => exact fun _ _ _ _ _ _ => My.of2 (fun _ _ => rfl))
        (case e => k_is); (case l => k_is); (case c => k_is); (case k => k_is)
      case t3 =>
        dsimp only [L2.KOf]
        refine' My.mkF KX G ?hb ?e ?l ?c ?k
        (case hb => exact fun _ _ _ _ _ _ => My.of1 (fun _ => rfl))
        (case e => k_is); (case l => k_is); (case c => k_is); (case k => k_is)
      case t4 =>
        dsimp only [L2.KOf]
        refine' My.mkF KX G ?hb ?e ?l ?c ?k
        (case hb => exact fun _ _ _ _ _ _ => My.of1 (fun _ => rfl))
        (case e => k_is); (case l => k_is); (case c => k_is); (case k => k_is)
      case t5 =>
        dsimp only [L2.KOf]
        refine' My.mkF KX G ?hb ?e ?l ?c ?k
        (case hb => exact fun _ _ _ _ _ _ => My.of1 (fun _ => rfl))
        (case e => k_is); (case l => k_is); (case c => k_is); (case k => k_is)
      case t6 =>
        dsimp only [L2.KOf]
        refine' My.mkF KX G ?hb ?e ?l ?c ?k
        (case hb => exact fun _ _ _ _ _ _ => My.of3 (fun _ _ _ => rfl))
        (case e => k_is); (case l => k_is); (case c => k_is); (case k => k_is)
      case t7 =>
        dsimp only [L2.KOf]
        refine' My.mkF KX G ?hb ?e ?l ?c ?k
        (case hb => exact fun _ _ _ _ _ _ => My.of1 (fun _ => rfl))
        (case e => k_is); (case l => k_is); (case c => k_is); (case k => k_is)
      case t8 =>
        dsimp only [L2.KOf]
        refine' My.mkF KX G ?hb ?e ?l ?c ?k
        (case hb => exact fun _ _ _ _ _ _ => My.of1 (fun _ => rfl))
        (case e => k_is); (case l => k_is); (case c => k_is); (case k => k_is)
      case t9 =>
        dsimp only [L2.KOf]
        refine' My.mkF KX G ?hb ?e ?l ?c ?k
        (case hb => exact fun _ _ _ _ _ _ => My.of3 (fun _ _ _ => rfl))
        (case e => k_is); (case l => k_is); (case c => k_is); (case k => k_is)
      case t10 =>
        dsimp only [L2.KOf]
        refine' My.mkF KX G ?hb ?e ?l ?c ?k
        (case hb => exact fun _ _ _ _ _ _ => My.of2 (fun _ _ => rfl))
        (case e => k_is); (case l => k_is); (case c => k_is); (case k => k_is)
      case t11 =>
        dsimp only [L2.KOf]
        refine' My.mkF KX G ?hb ?e ?l ?c ?k
        (case hb => exact fun _ _ _ _ _ _ => My.of2 (fun _ _ => rfl))
        (case e => k_is); (case l => k_is); (case c => k_is); (case k => k_is)
      case t12 =>
        dsimp only [L2.KOf]
        refine' My.mkF KX G ?hb ?e ?l ?c ?k
        (case hb => exact fun _ _ _ _ _ _ => My.of2 (fun _ _ => rfl))
        (case e => k_is); (case l => k_is); (case c => k_is); (case k => k_is)
      case t13 =>
        dsimp only [L2.KOf]
        refine' My.mkF KX G ?hb ?e ?l ?c ?k
        (case hb => exact fun _ _ _ _ _ _ => My.of3 (fun _ _ _ => rfl))
        (case e => k_is); (case l => k_is); (case c => k_is); (case k => k_is)
      case t14 =>
        dsimp only [L2.KOf]
        refine' My.mkF KX G ?hb ?e ?l ?c ?k
        (case hb => exact fun _ _ _ _ _ _ => My.of3 (fun _ _ _ => rfl))
        (case e => k_is); (case l => k_is); (case c => k_is); (case k => k_is)
      case t15 =>
        dsimp only [L2.KOf]
        refine' My.mkF KX G ?hb ?e ?l ?c ?k
        (case hb => exact fun _ _ _ _ _ _ => My.of2 (fun _ _ => rfl))
        (case e => k_is); (case l => k_is); (case c => k_is); (case k => k_is)
      case t16 =>
        dsimp only [L2.KOf]
        refine' My.mkF KX G ?hb ?e ?l ?c ?k
        (case hb => exact fun _ _ _ _ _ _ => My.of4 (fun _ _ _ _ => rfl))
        (case e => k_is); (case l => k_is); (case c => k_is); (case k => k_is)
      case t17 =>
        dsimp only [L2.KOf]
        refine' My.mkF KX G ?hb ?e ?l ?c ?k
        (case hb => exact fun _ _ _ _ _ _ => My.of3 (fun _ _ _ => rfl))
        (case e => k_is); (case l => k_is); (case c => k_is); (case k => k_is)
      case t18 =>
        dsimp only [L2.KOf]
        refine' My.mkF KX G ?hb ?e ?l ?c ?k
        (case hb => exact fun _ _ _ _ _ _ => My.of5 (fun _ _ _ _ _ => rfl))
        (case e => k_is); (case l => k_is); (case c => k_is); (case k => k_is)
      case t19 =>
        dsimp only [L2.KOf]
        refine' My.mkF KX G ?hb ?e ?l ?c ?k
        (case hb => exact fun _ _ _ _ _ _ => My.of5 (fun _ _ _ _ _ => rfl))
        (case e => k_is); (case l => k_is); (case c => k_is); (case k => k_is)
      case t20 =>
        dsimp only [L2.KOf]
        refine' My.mkF KX G ?hb ?e ?l ?c ?k
        (case hb => exact fun _ _ _ _ _ _ => My.of1 (fun _ => rfl))
        (case e => k_is); (case l => k_is); (case c => k_is); (case k => k_is)
      case t21 =>
        dsimp only [L2.KOf]
        refine' My.mkF KX G ?hb ?e ?l ?c ?k
        (case hb => exact fun _ _ _ _ _ _ => My.of2 (fun _ _ => rfl))
        (case e => k_is); (case l => k_is); (case c => k_is); (case k => k_is)
      case t22 =>
        dsimp only [L2.KOf]
        refine' My.mkF KX G ?hb ?e ?l ?c ?k
        (case hb => exact fun _ _ _ _ _ _ => My.of1 (fun _ => rfl))
        (case e => k_is); (case l => k_is); (case c => k_is); (case k => k_is)
      case t23 =>
        dsimp only [L2.KOf]
        refine' My.mkF KX G ?hb ?e ?l ?c ?k
        (case hb => exact fun _ _ _ _ _ _ => My.of1 (fun _ => rfl))
        (case e => k_is); (case l => k_is); (case c => k_is); (case k => k_is)
      case t24 =>
        dsimp only [L2.KOf]
        refine' My.mkF KX G ?hb ?e ?l ?c ?k
        (case hb => exact fun _ _ _ _ _ _ => My.of2 (fun _ _ => rfl))
        (case e => k_is); (case l => k_is); (case c => k_is); (case k => k_is)
      case t25 =>
        dsimp only [L2.KOf]
        refine' My.mkF KX G ?hb ?e ?l ?c ?k
        (case hb => exact fun _ _ _ _ _ _ => My.of2 (fun _ _ => rfl))
        (case e => k_is); (case l => k_is); (case c => k_is); (case k => k_is)
      case t26 =>
        dsimp only [L2.KOf]
        refine' My.mkF KX G ?hb ?e ?l ?c ?k
        (case hb => exact fun _ _ _ _ _ _ => My.of4 (fun _ _ _ _ => rfl))
        (case e => k_is); (case l => k_is); (case c => k_is); (case k => k_is)
      case t27 =>
        dsimp only [L2.KOf]
        refine' My.mkF KX G ?hb ?e ?l ?c ?k
        (case hb => exact fun _ _ _ _ _ _ => My.of2 (fun _ _ => rfl))
        (case e => k_is); (case l => k_is); (case c => k_is); (case k => k_is)
      case t28 =>
        dsimp only [L2.KOf]
        refine' My.mkF KX G ?hb ?e ?l ?c ?k
        (case hb => exact fun _ _ _ _ _ _ => My.of3 (fun _ _ _ => rfl))
        (case e => k_is); (case l => k_is); (case c => k_is); (case k => k_is)
      case t29 =>
        dsimp only [L2.KOf]
        refine' My.mkF KX G ?hb ?e ?l ?c ?k
        (case hb => exact fun _ _ _ _ _ _ => My.of3 (fun _ _ _ => rfl))
        (case e => k_is); (case l => k_is); (case c => k_is); (case k => k_is)
      case t30 =>
        dsimp only [L2.KOf]
        refine' My.mkF KX G ?hb ?e ?l ?c ?k
        (case hb => exact fun _ _ _ _ _ _ => My.of2 (fun _ _ => rfl))
        (case e => k_is); (case l => k_is); (case c => k_is); (case k => k_is)
      case t31 =>
        dsimp only [L2.KOf]
        refine' My.mkF KX G ?hb ?e ?l ?c ?k
        (case hb => exact fun _ _ _ _ _ _ => My.of2 (fun _ _ => rfl))
        (case e => k_is); (case l => k_is); (case c => k_is); (case k => k_is)
      case t32 =>
        dsimp only [L2.KOf]
        refine' My.mkF KX G ?hb ?e ?l ?c ?k
        (case hb => exact fun _ _ _ _ _ _ => My.of2 (fun _ _ => rfl))
        (case e => k_is); (case l => k_is); (case c => k_is); (case k => k_is)
      case t33 =>
        dsimp only [L2.KOf]
        refine' My.mkF KX G ?hb ?e ?l ?c ?k
        (case hb => exact fun _ _ _ _ _ _ => My.of2 (fun _ _ => rfl))
        (case e => k_is); (case l => k_is); (case c => k_is); (case k => k_is)
      case t34 =>
        dsimp only [L2.KOf]
        refine' My.mkF KX G ?hb ?e ?l ?c ?k
        (case hb => exact fun _ _ _ _ _ _ => My.of2 (fun _ _ => rfl))
        (case e => k_is); (case l => k_is); (case c => k_is); (case k => k_is)
      case t35 =>
        dsimp only [L2.KOf]
        refine' My.mkF KX G ?hb ?e ?l ?c ?k
        (case hb => exact fun _ _ _ _ _ _ => My.of2 (fun _ _ => rfl))
        (case e => k_is); (case l => k_is); (case c => k_is); (case k => k_is)
      case t36 =>
        dsimp only [L2.KOf]
        refine' My.mkF KX G ?hb ?e ?l ?c ?k
        (case hb => exact fun _ _ _ _ _ _ => My.of1 (fun _ => rfl))
        (case e => k_is); (case l => k_is); (case c => k_is); (case k => k_is)
      case t37 =>
        dsimp only [L2.KOf]
        refine' My.mkF KX G ?hb ?e ?l ?c ?k
        (case hb => exact fun _ _ _ _ _ _ => My.of3 (fun _ _ _ => rfl))
        (case e => k_is); (case l => k_is); (case c => k_is); (case k => k_is)
      case t38 =>
        dsimp only [L2.KOf]
        refine' My.mkF KX G ?hb ?e ?l ?c ?k
        (case hb => exact fun _ _ _ _ _ _ => My.of1 (fun _ => rfl))
        (case e => k_is); (case l => k_is); (case c => k_is); (case k => k_is)
      case t39 =>
        dsimp only [L2.KOf]
        refine' My.mkF KX G ?hb ?e ?l ?c ?k
        (case hb => exact fun _ _ _ _ _ _ => My.of1 (fun _ => rfl))
        (case e => k_is); (case l => k_is); (case c => k_is); (case k => k_is)
      case t40 =>
        dsimp only [L2.KOf]
        refine' My.mkF KX G ?hb ?e ?l ?c ?k
        (case hb => exact fun _ _ _ _ _ _ => My.of2 (fun _ _ => rfl))
        (case e => k_is); (case l => k_is); (case c => k_is); (case k => k_is)
      case t41 =>
        dsimp only [L2.KOf]
        refine' My.mkF KX G ?hb ?e ?l ?c ?k
        (case hb => exact fun _ _ _ _ _ _ => My.of2 (fun _ _ => rfl))
        (case e => k_is); (case l => k_is); (case c => k_is); (case k => k_is)
      case t42 =>
        dsimp only [L2.KOf]
        refine' My.mkF KX G ?hb ?e ?l ?c ?k
        (case hb => exact fun _ _ _ _ _ _ => My.of1 (fun _ => rfl))
        (case e => k_is); (case l => k_is); (case c => k_is); (case k => k_is)
      case t43 =>
        dsimp only [L2.KOf]
        refine' My.mkF KX G ?hb ?e ?l ?c ?k
        (case hb => exact fun _ _ _ _ _ _ => My.of1 (fun _ => rfl))
        (case e => k_is); (case l => k_is); (case c => k_is); (case k => k_is)
      case t44 =>
        dsimp only [L2.KOf]
        refine' My.mkF KX G ?hb ?e ?l ?c ?k
        (case hb => exact fun _ _ _ _ _ _ => My.of2 (fun _ _ => rfl))
        (case e => k_is); (case l => k_is); (case c => k_is); (case k => k_is)
      case t45 =>
        dsimp only [L2.KOf]
        refine' My.mkF KX G ?hb ?e ?l ?c ?k
        (case hb => exact fun _ _ _ _ _ _ => My.of3 (fun _ _ _ => rfl))
        (case e => k_is); (case l => k_is); (case c => k_is); (case k => k_is)
      case t46 =>
        dsimp only [L2.KOf]
        refine' My.mkF KX G ?hb ?e ?l ?c ?k
        (case hb => exact fun _ _ _ _ _ _ => My.of3 (fun _ _ _ => rfl))
        (case e => k_is); (case l => k_is); (case c => k_is); (case k => k_is)
      case t47 =>
        dsimp only [L2.KOf]
        refine' My.mkF KX G ?hb ?e ?l ?c ?k
        (case hb => exact fun _ _ _ _ _ _ => My.of3 (fun _ _ _ => rfl))
        (case e => k_is); (case l => k_is); (case c => k_is); (case k => k_is)
      case t48 =>
        dsimp only [L2.KOf]
        refine' My.mkF KX G ?hb ?e ?l ?c ?k
        (case hb => exact fun _ _ _ _ _ _ => My.of2 (fun _ _ => rfl))
        (case e => k_is); (case l => k_is); (case c => k_is); (case k => k_is)
      case t49 =>
        dsimp only [L2.KOf]
        refine' My.mkF KX G ?hb ?e ?l ?c ?k
        (case hb => exact fun _ _ _ _ _ _ => My.of3 (fun _ _ _ => rfl))
        (case e => k_is); (case l => k_is); (case c => k_is); (case k => k_is)
      case t50 =>
        dsimp only [L2.KOf]
        refine' My.mkF KX G ?hb ?e ?l ?c ?k
        (case hb => exact fun _ _ _ _ _ _ => My.of1 (fun _ => rfl))
        (case e => k_is); (case l => k_is); (case c => k_is); (case k => k_is)
      case t51 =>
        dsimp only [L2.KOf]
        refine' My.mkF KX G ?hb ?e ?l ?c ?k
        (case hb => exact fun _ _ _ _ _ _ => My.of4 (fun _ _ _ _ => rfl))
        (case e => k_is); (case l => k_is); (case c => k_is); (case k => k_is)
      case t52 =>
        dsimp only [L2.KOf]
        refine' My.mkF KX G ?hb ?e ?l ?c ?k
        (case hb => exact fun _ _ _ _ _ _ => My.of3 (fun _ _ _ => rfl))
        (case e => k_is); (case l => k_is); (case c => k_is); (case k => k_is)
      case t53 =>
        dsimp only [L2.KOf]
        refine' My.mkF KX G ?hb ?e ?l ?c ?k
        (case hb => exact fun _ _ _ _ _ _ => My.of1 (fun _ => rfl))
        (case e => k_is); (case l => k_is); (case c => k_is); (case k => k_is)
      case t54 =>
        dsimp only [L2.KOf]
        refine' My.mkF KX G ?hb ?e ?l ?c ?k
        (case hb => exact fun _ _ _ _ _ _ => My.of3 (fun _ _ _ => rfl))
        (case e => k_is); (case l => k_is); (case c => k_is); (case k => k_is)
      case t55 =>
        dsimp only [L2.KOf]
        refine' My.mkF KX G ?hb ?e ?l ?c ?k
        (case hb => exact fun _ _ _ _ _ _ => My.of5 (fun _ _ _ _ _ => rfl))
        (case e => k_is); (case l => k_is); (case c => k_is); (case k => k_is)
      case t56 =>
        dsimp only [L2.KOf]
        refine' My.mkF KX G ?hb ?e ?l ?c ?k
        (case hb => exact fun _ _ _ _ _ _ => My.of1 (fun _ => rfl))
        (case e => k_is); (case l => k_is); (case c => k_is); (case k => k_is)
      case t57 =>
        refine' My.mkN KX G ?e
        (case e => k_is)
      case t58 =>
        refine' My.mkN KX G ?e
        (case e => k_is)
      case t59 =>
        refine' My.mkN KX G ?e
        (case e => k_is)
      case t60 =>
        refine' My.mkN KX G ?e
        (case e => k_is)
      case t61 =>
        refine' My.mkN KX G ?e
        (case e => k_is)
      case t62 =>
        refine' My.mkN KX G ?e
        (case e => k_is)
      case t63 =>
        refine' My.mkN KX G ?e
        (case e => k_is)
      case t64 =>
        refine' My.mkN KX G ?e
        (case e => k_is)
      case t65 =>
        refine' My.mkN KX G ?e
        (case e => k_is)
      case t66 =>
        refine' My.mkN KX G ?e
        (case e => k_is)
      case t67 =>
        refine' My.mkN KX G ?e
        (case e => k_is)
      case t68 =>
        refine' My.mkN KX G ?e
        (case e => k_is)
      case t69 =>
        refine' My.mkN KX G ?e
        (case e => k_is)
      case t70 =>
        refine' My.mkN KX G ?e
        (case e => k_is)
      case t71 =>
        refine' My.mkN KX G ?e
        (case e => k_is)
      case t72 =>
        dsimp only [L2.KOf]
        refine' ⟨_, _, _, _, _, _, _, _, _, _, My.XF.mk (My.mkM KX G ?kg0) ?kf1 ?kf2 ?kf3 ?kf4 ?kf5 ?kf6 ?kf7 ?kf8 ?kf9 ?kf10 ?kf11 (My.mkM KX G ?kg12) (My.mkM KX G ?kg13) (My.mkM KX G ?kg14) ?kf15 ?kf16 ?kf17 ?kf18 ?kf19 ?kf20 ?kf21 ?kf22 ?kf23 ?kf24 ?kf25 (My.mkM KX G ?kg26) ?kf27 ?kf28 ?kf29 ?kf30 ?kf31 ?kf32 ?kf33 ?kf34 ?kf35 ?kf36 ?kf37 (My.mkM KX G ?kg38) ?kf39 ?kf40 ?kf41 ?kf42 ?kf43 ?kf44 ?kf45 ?kf46 ?kf47 ?kf48 ?kf49 (My.mkM KX G ?kg50) (My.mkM KX G ?kg51) ?kf52 ?kf53 ?kf54 ?kf55 ?kf56 ?kf57 ?kf58 ?kf59 ?kf60 ?kf61 ?kf62 (My.mkM KX G ?kg63) (My.mkM KX G ?kg64)⟩
        (case kg0 => k_is)
        (case kg12 => k_is)
        (case kg13 => k_is)
        (case kg14 => k_is)
        (case kg26 => k_is)
        (case kg38 => k_is)
        (case kg50 => k_is)
        (case kg51 => k_is)
        (case kg63 => k_is)
        (case kg64 => k_is)
        (case kf1 => exact ⟨by k_exc, by k_is, by k_is, by k_is, by k_is, by k_is, ⟨_, by k_is⟩⟩)
        (case kf2 => exact L2.kit_val (by k_is))
        (case kf3 => exact L2.exm_of (by k_is) (by k_is) (by k_is) (by k_is))
        (case kf4 => exact L2.kit_no (by decide) (by k_is) (by k_is) (by k_is))
        (case kf5 => exact L2.kit_no (by decide) (by k_is) (by k_is) (by k_is))
        (case kf6 => exact L2.kit_no (by decide) (by k_is) (by k_is) (by k_is))
        (case kf7 => exact L2.kit_no (by decide) (by k_is) (by k_is) (by k_is))
        (case kf8 => exact L2.kit_no (by decide) (by k_is) (by k_is) (by k_is))
        (case kf9 => exact L2.kit_no (by decide) (by k_is) (by k_is) (by k_is))
        (case kf10 => exact L2.kit_no (by decide) (by k_is) (by k_is) (by k_is))
        (case kf11 => exact L2.kit_no (by decide) (by k_is) (by k_is) (by k_is))
        (case kf15 => exact ⟨by k_exc, by k_is, by k_is, by k_is, by k_is, by k_is, ⟨_, by k_is⟩⟩)
        (case kf16 => exact L2.kit_val (by k_is))
        (case kf17 => exact L2.exm_of (by k_is) (by k_is) (by k_is) (by k_is))
        (case kf18 => exact L2.kit_no (by decide) (by k_is) (by k_is) (by k_is))
        (case kf19 => exact L2.kit_no (by decide) (by k_is) (by k_is) (by k_is))
        (case kf20 => exact L2.kit_no (by decide) (by k_is) (by k_is) (by k_is))
        (case kf21 => exact L2.kit_no (by decide) (by k_is) (by k_is) (by k_is))
        (case kf22 => exact L2.kit_no (by decide) (by k_is) (by k_is) (by k_is))
        (case kf23 => exact L2.kit_no (by decide) (by k_is) (by k_is) (by k_is))
        (case kf24 => exact L2.kit_no (by decide) (by k_is) (by k_is) (by k_is))
        (case kf25 => exact L2.kit_no (by decide) (by k_is) (by k_is) (by k_is))
        (case kf27 => exact ⟨by k_exc, by k_is, by k_is, by k_is, by k_is, by k_is, ⟨_, by k_is⟩⟩)
        (case kf28 => exact L2.kit_val (by k_is))
        (case kf29 => exact L2.exm_of (by k_is) (by k_is) (by k_is) (by k_is))
        (case kf30 => exact L2.kit_no (by decide) (by k_is) (by k_is) (by k_is))
        (case kf31 => exact L2.kit_no (by decide) (by k_is) (by k_is) (by k_is))
        (case kf32 => exact L2.kit_no (by decide) (by k_is) (by k_is) (by k_is))
        (case kf33 => exact L2.kit_no (by decide) (by k_is) (by k_is) (by k_is))
        (case kf34 => exact L2.kit_no (by decide) (by k_is) (by k_is) (by k_is))
        (case kf35 => exact L2.kit_no (by decide) (by k_is) (by k_is) (by k_is))
        (case kf36 => exact L2.kit_no (by decide) (by k_is) (by k_is) (by k_is))
        (case kf37 => exact L2.kit_no (by decide) (by k_is) (by k_is) (by k_is))
        (case kf39 => exact ⟨by k_exc, by k_is, by k_is, by k_is, by k_is, by k_is, ⟨_, by k_is⟩⟩)
        (case kf40 => exact L2.kit_val (by k_is))
        (case kf41 => exact L2.exm_of (by k_is) (by k_is) (by k_is) (by k_is))
        (case kf42 => exact L2.kit_no (by decide) (by k_is) (by k_is) (by k_is))
        (case kf43 => exact L2.kit_no (by decide) (by k_is) (by k_is) (by k_is))
        (case kf44 => exact L2.kit_no (by decide) (by k_is) (by k_is) (by k_is))
        (case kf45 => exact L2.kit_no (by decide) (by k_is) (by k_is) (by k_is))
        (case kf46 => exact L2.kit_no (by decide) (by k_is) (by k_is) (by k_is))
        (case kf47 => exact L2.kit_no (by decide) (by k_is) (by k_is) (by k_is))
        (case kf48 => exact L2.kit_no (by decide) (by k_is) (by k_is) (by k_is))
        (case kf49 => exact L2.kit_no (by decide) (by k_is) (by k_is) (by k_is))
        (case kf52 => exact ⟨by k_exc, by k_is, by k_is, by k_is, by k_is, by k_is, ⟨_, by k_is⟩⟩)
        (case kf53 => exact L2.kit_val (by k_is))
        (case kf54 => exact L2.exm_of (by k_is) (by k_is) (by k_is) (by k_is))
        (case kf55 => exact L2.kit_no (by decide) (by k_is) (by k_is) (by k_is))
        (case kf56 => exact L2.kit_no (by decide) (by k_is) (by k_is) (by k_is))
        (case kf57 => exact L2.kit_no (by decide) (by k_is) (by k_is) (by k_is))
        (case kf58 => exact L2.kit_no (by decide) (by k_is) (by k_is) (by k_is))
        (case kf59 => exact L2.kit_no (by decide) (by k_is) (by k_is) (by k_is))
        (case kf60 => exact L2.kit_no (by decide) (by k_is) (by k_is) (by k_is))
        (case kf61 => exact L2.kit_no (by decide) (by k_is) (by k_is) (by k_is))
        (case kf62 => exact L2.kit_no (by decide) (by k_is) (by k_is) (by k_is))
      case t73 =>
        refine' My.mkC KX G ?e
        (case e => k_is)
      case t74 =>
        refine' My.mkC KX G ?e
        (case e => k_is)
      case t75 =>
        refine' My.mkC KX G ?e
        (case e => k_is)
    obtain ⟨t, T⟩ := My.txt_of TS
    have e := hmg.symm.trans T.m_law
    cases e
    exact ⟨_, My.law_binds T.F_law, fun base _ _ => My.ok_law T⟩
#print axioms PySem.Challenge.cw_noticed_k01_orders_holds
