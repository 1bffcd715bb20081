import PyProof.Rows.All
import Wide.All
import OpenK.AllK
import Wide.FinOn
import Lean
import PyProof.EqAt
import PyProof.EqKinds
import PyProof.TupleCall
import PySem.Challenge.RW_rowsbeneath_k17_steps_told
set_option Elab.async false
set_option linter.all false
set_option maxRecDepth 100000
/-! THE HAND LAYER, for ints, bools, texts, own classes, LISTS and tuples (index, slices, in, append, pop ..), calls, loops. Paste it whole ahead of your own text; what your proof does not reach may be deleted. -/
namespace L2
open PySem PySem.Spec PyProof.Rows

/-- a key: an int or a str -/
abbrev Key := Sum Int Str
def keyIs : Key → Value → Bool
  | .inl k, v => Value.isInt k v
  | .inr x, v => Value.isStrOf x v
def keyH (w : World) : Key → Int
  | .inl k => hashInt k
  | .inr x => hashStr w x
theorem keyIs_shape : ∀ {k : Key} {v : Value}, keyIs k v = true → (∃ i t, k = Sum.inl i ∧ v = Value.int i t) ∨ (∃ x t, k = Sum.inr x ∧ v = Value.str x t)
  | .inl i, v, h => by
    obtain ⟨t, e⟩ := Value.isInt_shape (k := i) (v := v) h
    exact .inl ⟨i, t, rfl, e⟩
  | .inr x, v, h => by
    obtain ⟨t, e⟩ := Value.isStrOf_shape (x := x) (v := v) h
    exact .inr ⟨x, t, rfl, e⟩
theorem keyIs_int (i : Int) (t : Tok) : keyIs (.inl i) (.int i t) = true := by simp [keyIs, Value.isInt]
theorem keyIs_str (x : Str) (t : Tok) : keyIs (.inr x) (.str x t) = true := by simp [keyIs, Value.isStrOf]
theorem key_ll (a b : Int) : decide ((Sum.inl a : Key) = Sum.inl b) = (a == b) := by
  by_cases e : a = b
  · subst e; simp
  · have h : ¬ (Sum.inl a : Key) = Sum.inl b := fun q => e (Sum.inl.inj q)
    rw [decide_eq_false h]
    exact (beq_eq_false_iff_ne.mpr e).symm
theorem key_rr (a b : Str) : decide ((Sum.inr a : Key) = Sum.inr b) = decide (a = b) := by
  by_cases e : a = b
  · subst e; simp
  · have h : ¬ (Sum.inr a : Key) = Sum.inr b := fun q => e (Sum.inr.inj q)
    rw [decide_eq_false h, decide_eq_false e]
theorem key_lr (a : Int) (b : Str) : decide ((Sum.inl a : Key) = Sum.inr b) = false := decide_eq_false (fun q => nomatch q)
theorem key_rl (a : Str) (b : Int) : decide ((Sum.inr a : Key) = Sum.inl b) = false := decide_eq_false (fun q => nomatch q)

def mixKind (prog : Program) (w : World) : PySem.KeyKind prog w Key where
  is := keyIs
  hash := keyH w
  inj := fun v a b ha hb => by
    rcases keyIs_shape ha with ⟨i, t, rfl, rfl⟩ | ⟨x, t, rfl, rfl⟩
    · rcases keyIs_shape hb with ⟨j, u, rfl, e⟩ | ⟨y, u, rfl, e⟩
      · injection e with e1 _; rw [e1]
      · exact nomatch e
    · rcases keyIs_shape hb with ⟨j, u, rfl, e⟩ | ⟨y, u, rfl, e⟩
      · exact nomatch e
      · injection e with e1 _; rw [e1]
  byValue := fun k v h => by
    rcases keyIs_shape h with ⟨i, t, rfl, rfl⟩ | ⟨x, t, rfl, rfl⟩ <;> rfl
  pyHash := fun hv h => by
    rcases keyIs_shape hv with ⟨i, t, rfl, rfl⟩ | ⟨x, t, rfl, rfl⟩
    · exact wpAny_pyHash_int h
    · exact wpAny_pyHash_str h
  eqBool := fun hu hv h => by
    rcases keyIs_shape hu with ⟨i, t, rfl, rfl⟩ | ⟨x, t, rfl, rfl⟩
    · rcases keyIs_shape hv with ⟨j, u, rfl, rfl⟩ | ⟨y, u, rfl, rfl⟩
      · rw [key_ll] at h; exact wpAny_eqBool_int h
      · rw [key_lr] at h; exact SeqAt.EqAt.int_str i t y u _ _ _ _ h
    · rcases keyIs_shape hv with ⟨j, u, rfl, rfl⟩ | ⟨y, u, rfl, rfl⟩
      · rw [key_rl] at h; exact SeqAt.EqAt.str_int x t j u _ _ _ _ h
      · rw [key_rr] at h; exact wpAny_eqBool_str h
  «strs» := fun k x t v h => by
    rcases keyIs_shape h with ⟨i, u, rfl, e⟩ | ⟨y, u, rfl, e⟩
    · exact nomatch e
    · injection e with e1 _
      subst e1
      cases v <;> rfl

theorem mixKind_int (prog : Program) (w : World) (i : Int) (t : Tok) : (mixKind prog w).is (.inl i) (.int i t) = true := keyIs_int i t
theorem mixKind_str (prog : Program) (w : World) (x : Str) (t : Tok) : (mixKind prog w).is (.inr x) (.str x t) = true := keyIs_str x t
end L2

namespace L2
open PySem PySem.Spec PyProof.Rows

/-- a value, without the heap -/
inductive V where
  | non | bl (b : Bool) | int (i : Int) | str (x : Str) | byt (b : Array UInt8) | flt (b : UInt64) | ref (a : Addr) | ty (n : String)
  deriving DecidableEq

def RelV : V → Value → Prop
  | .non, u => u = Value.none
  | .bl b, u => u = Value.bool b
  | .int i, u => ∃ t, u = Value.int i t
  | .str x, u => ∃ t, u = Value.str x t
  | .byt b, u => ∃ t, u = Value.bytes b t
  | .flt b, u => ∃ t, u = Value.float b t
  | .ref a, u => u = Value.ref a
  | .ty n, u => u = Value.type n

abbrev Vals : List V → List Value → Prop := Paired RelV
theorem Vals.length {xs : List V} {us : List Value} (r : Vals xs us) : xs.length = us.length := Paired.length r
theorem Vals.get : ∀ {xs : List V} {us : List Value} {i : Nat} {x : V}, Vals xs us → xs[i]? = some x → ∃ u, us[i]? = some u ∧ RelV x u
  | _, _, _, _, .nil, e => by simp at e
  | _, _, 0, _, .cons r _, e => by simp at e; subst e; exact ⟨_, rfl, r⟩
  | _, _, i + 1, x, .cons _ t, e => by
    obtain ⟨u, h1, h2⟩ := Vals.get (i := i) (x := x) t (by simpa using e)
    exact ⟨u, by simpa using h1, h2⟩
theorem Vals.set {x : V} {u : Value} (r : RelV x u) : ∀ {xs : List V} {us : List Value} (i : Nat), Vals xs us → Vals (xs.set i x) (us.set i u)
  | _, _, _, .nil => .nil
  | _, _, 0, .cons _ t => .cons r t
  | _, _, i + 1, .cons q t => .cons q (Vals.set r i t)
theorem Vals.append : ∀ {xs ys : List V} {us ws : List Value}, Vals xs us → Vals ys ws → Vals (xs ++ ys) (us ++ ws)
  | _, _, _, _, .nil, s => s
  | _, _, _, _, .cons r t, s => .cons r (Vals.append t s)
theorem Vals.take : ∀ {xs : List V} {us : List Value} (n : Nat), Vals xs us → Vals (xs.take n) (us.take n)
  | _, _, 0, _ => .nil
  | _, _, _ + 1, .nil => .nil
  | _, _, n + 1, .cons r t => .cons r (Vals.take n t)
theorem Vals.drop : ∀ {xs : List V} {us : List Value} (n : Nat), Vals xs us → Vals (xs.drop n) (us.drop n)
  | _, _, 0, r => r
  | _, _, _ + 1, .nil => .nil
  | _, _, n + 1, .cons _ t => Vals.drop n t
theorem Vals.none_of : ∀ {xs : List V} {us : List Value} {i : Nat}, Vals xs us → xs[i]? = none → us[i]? = none := fun {xs us i} r e => by
  have h1 := r.length
  have h2 : xs.length ≤ i := List.getElem?_eq_none_iff.mp e
  exact List.getElem?_eq_none_iff.mpr (by omega)

def RelO : Option V → Option Value → Prop
  | some v, some u => RelV v u
  | none, none => True
  | _, _ => False
def KV {κ : Type} : List (κ × V) → List (κ × Value) → Prop := Paired fun (p : κ × V) (q : κ × Value) => p.1 = q.1 ∧ RelV p.2 q.2

/-- a key of a dict (00_mix): an int or a text -/
def kV : Key → V
  | .inl i => .int i
  | .inr x => .str x

/-- what stands at a tracked address -/
inductive HO where
  /-- a list -/
  | lst (xs : List V)
  /-- a tuple (never changes) -/
  | tup (xs : List V)
  /-- a dict whose keys are ints and texts; one whose keys are tuples of ints and texts (the empty one is both) -/
  | dK (kvs : List (Key × V)) | dT (kvs : List (List Key × V))
  /-- a set of ints: its members, its size -/
  | set (S : Int → Bool) (n : Nat)
  /-- an instance of the class at C, its dict at dx, its attributes -/
  | ins (C dx : Addr) (fs : List (Str × V))
  /-- the dict of the instance at x -/
  | own (x : Addr)
  /-- the dict of an exception -/
  | xd (fs : List (Str × V))
  /-- a bound method, f of x -/
  | met (f x : Addr)
  /-- a range object lo, lo + 1, .. below hi -/
  | rng (lo hi : Int)
  /-- a thing that is known to the object (the script; a dict while a loop walks it): read, never written while it is so -/
  | frz (o : Obj) (u : HO)
  /-- a code object's table -/
  | tbl (ps : Array Value)
  /-- any other thing, by what is true of its one object (a def of one's own: SetO a S n := HO.ext fun h => ..) -/
  | ext (φ : Heap → Prop)

abbrev Hp := Addr → Option HO
def upd (H : Hp) (a : Addr) (o : HO) : Hp := fun b => if b = a then some o else H b
theorem upd_same {H : Hp} {a : Addr} {o : HO} : upd H a o a = some o := by unfold upd; rw [if_pos rfl]
theorem upd_ne {H : Hp} {a b : Addr} {o : HO} (h : b ≠ a) : upd H a o b = H b := by unfold upd; rw [if_neg h]
theorem ne_of_none {H : Hp} {a b : Addr} {o : HO} (h : H a = some o) (h' : H b = none) : a ≠ b := by
  intro e; subst e; rw [h] at h'; cases h'

section
variable (P : Program) (w : World)
def ObjOk (H : Hp) (h : Heap) (a : Addr) : HO → Prop
  | .lst xs => xs.length ≤ sizeLine ∧ ∃ (its : List Value) (n : Nat), Vals xs its ∧ h.get? a = some { cls := .type "list", data := .seq its.toArray n }
  | .tup xs => xs.length ≤ sizeLine ∧ ∃ its : List Value, Vals xs its ∧ IsTup h a its.toArray
  | .dK kvs => kvs.length ≤ sizeLine ∧ (a == sysModules) = false ∧ ∃ vs, KV kvs vs ∧ h.DictOf (mixKind P w) a vs
  | .dT kvs => kvs.length ≤ sizeLine ∧ (a == sysModules) = false ∧ ∃ xs : List (List Key × Addr × Value),
      Paired (fun (p : List Key × V) (q : List Key × Addr × Value) => p.1 = q.1 ∧ H q.2.1 = some (.tup (p.1.map kV)) ∧ RelV p.2 q.2.2) kvs xs ∧
      ∃ o es ep, h.get? a = some o ∧ o.ExactDict ∧ o.data = .dict es ep ∧ es.toList = xs.map (entryOfKey (tupleKind (mixKind P w))) ∧ (xs.map (·.1)).Nodup
  | .set S n => h.SetOf (intKind P w) a S n
  | .ins C dx fs => H dx = some (.own a) ∧ fs.length ≤ 1000 ∧ dx ≠ a ∧ h.get? a = some (PySem.W.instObj C dx) ∧
      ∃ mA, h.Ns1 dx mA ∧ (∀ f, RelO (fs.lookup f) (mA f)) ∧ PySem.Within mA (fs.map (·.1))
  | .own _ => ∃ o, h.get? a = some o
  | .xd fs => ∃ mA, h.Ns1 a mA ∧ ∀ f, RelO (fs.lookup f) (mA f)
  | .rng lo hi => ∃ t u v, h.get? a = some { cls := .type "range", data := .fields #[.int lo t, .int hi u, .int 1 v] }
  | .frz o u => h.get? a = some o ∧ ObjOk H h a u
  | .tbl ps => h.get? a = some { cls := .none, data := .fields ps }
  | .met f x => h.get? a = some (PySem.W.methodObj (.ref f) (.ref x))
  | .ext φ => φ h ∧ (∃ o, h.get? a = some o) ∧ ∀ h1 h2 : Heap, φ h1 → (∀ o, h1.get? a = some o → h2.get? a = some o) → φ h2
/-- the abstract heap is held -/
def HOk (H : Hp) (h : Heap) : Prop := ∀ a o, H a = some o → ObjOk P w H h a o
end

section
variable {P : Program} {w : World} {H H' : Hp} {h h' : Heap} {a : Addr} {o : HO}
theorem ObjOk.lt (x : ObjOk P w H h a o) : a < h.objs.size := by
  cases o with
  | lst xs => obtain ⟨_, _, _, _, e⟩ := x; exact Heap.lt_size e
  | tup xs => obtain ⟨_, _, _, p⟩ := x; exact p.lt
  | dK kvs => obtain ⟨_, _, _, _, o, _, _, e, _⟩ := x; exact Heap.lt_size e
  | dT kvs => obtain ⟨_, _, _, _, o, _, _, e, _⟩ := x; exact Heap.lt_size e
  | set S n => obtain ⟨o, _, _, _, e, _⟩ := x; exact Heap.lt_size e
  | ins C dx fs => obtain ⟨_, _, _, e, _⟩ := x; exact Heap.lt_size e
  | own y => obtain ⟨_, e⟩ := x; exact Heap.lt_size e
  | xd fs => obtain ⟨_, ⟨_, _, _, e, _⟩, _⟩ := x; exact Heap.lt_size e
  | rng lo hi => obtain ⟨_, _, _, e⟩ := x; exact Heap.lt_size e
  | frz ob u => obtain ⟨e, _⟩ := x; exact Heap.lt_size e
  | tbl ps => exact Heap.lt_size (show h.get? a = some _ from x)
  | met f y => exact Heap.lt_size (show h.get? a = some _ from x)
  | ext φ => obtain ⟨_, ⟨_, e⟩, _⟩ := x; exact Heap.lt_size e
theorem Paired.mapP {α β : Type} {F G : α → β → Prop} : ∀ {l₁ : List α} {l₂ : List β}, Paired F l₁ l₂ → (∀ a b, F a b → G a b) → Paired G l₁ l₂
  | _, _, .nil, _ => .nil
  | _, _, .cons r t, f => .cons (f _ _ r) (Paired.mapP t f)
/-- what an object's description leans on: its own object, its own dict, the tuples -/
theorem ObjOk.stay (x : ObjOk P w H h a o) (k : ∀ b u, (b = a ∨ H b = some (.own a)) → h.get? b = some u → h'.get? b = some u)
    (ho : ∀ b, H b = some (.own a) → H' b = some (.own a)) (ht : ∀ b xs, H b = some (.tup xs) → H' b = some (.tup xs)) : ObjOk P w H' h' a o := by
  induction o with
  | lst xs => obtain ⟨z, its, n, r, e⟩ := x; exact ⟨z, its, n, r, k _ _ (.inl rfl) e⟩
  | tup xs => obtain ⟨z, its, r, ob, e, c⟩ := x; exact ⟨z, its, r, ob, k _ _ (.inl rfl) e, c⟩
  | dK kvs => obtain ⟨z, y, vs, r, ob, es, ep, e, c⟩ := x; exact ⟨z, y, vs, r, ob, es, ep, k _ _ (.inl rfl) e, c⟩
  | dT kvs =>
    obtain ⟨z, y, xs, r, ob, es, ep, e, c⟩ := x
    exact ⟨z, y, xs, Paired.mapP r fun p q z => ⟨z.1, ht _ _ z.2.1, z.2.2⟩, ob, es, ep, k _ _ (.inl rfl) e, c⟩
  | set S n => obtain ⟨ob, es, ep, t, e, c⟩ := x; exact ⟨ob, es, ep, t, k _ _ (.inl rfl) e, c⟩
  | ins C dx fs =>
    obtain ⟨d, z, ne, e, mA, ⟨od, es, ep, e2, c⟩, r⟩ := x
    exact ⟨ho _ d, z, ne, k _ _ (.inl rfl) e, mA, ⟨od, es, ep, k _ _ (.inr d) e2, c⟩, r⟩
  | own y => obtain ⟨ob, e⟩ := x; exact ⟨ob, k _ _ (.inl rfl) e⟩
  | xd fs => obtain ⟨mA, ⟨od, es, ep, e, c⟩, r⟩ := x; exact ⟨mA, ⟨od, es, ep, k _ _ (.inl rfl) e, c⟩, r⟩
  | rng lo hi => obtain ⟨t, u, v, e⟩ := x; exact ⟨t, u, v, k _ _ (.inl rfl) e⟩
  | frz ob u ih => obtain ⟨e, q⟩ := x; exact ⟨k _ _ (.inl rfl) e, ih q⟩
  | tbl ps =>
    have e : h.get? a = some { cls := .none, data := .fields ps } := x
    show h'.get? a = some { cls := .none, data := .fields ps }
    exact k a _ (.inl rfl) e
  | met f y =>
    have e : h.get? a = some (PySem.W.methodObj (.ref f) (.ref y)) := x
    show h'.get? a = some (PySem.W.methodObj (.ref f) (.ref y))
    exact k a _ (.inl rfl) e
  | ext φ => obtain ⟨p, ⟨o, e⟩, st⟩ := x; exact ⟨st _ _ p fun o q => k _ _ (.inl rfl) q, ⟨o, k _ _ (.inl rfl) e⟩, st⟩
theorem HOk.lt (x : HOk P w H h) (e : H a = some o) : a < h.objs.size := (x a o e).lt
theorem HOk.fresh (x : HOk P w H h) (e : h.objs.size ≤ a) : H a = none := by
  cases q : H a with
  | none => rfl
  | some u => exact absurd (Nat.lt_of_lt_of_le (x.lt q) e) (Nat.lt_irrefl _)
/-- every object of the heap is kept -/
theorem HOk.kept (x : HOk P w H h) (k : ∀ b u, h.get? b = some u → h'.get? b = some u) : HOk P w H h' := fun a o e =>
  (x a o e).stay (fun b u _ q => k b u q) (fun _ q => q) fun _ _ q => q
/-- a new object is laid and tracked -/
theorem HOk.laid (x : HOk P w H h) (k : ∀ b u, h.get? b = some u → h'.get? b = some u) (hp : h.objs.size ≤ a) (new : ObjOk P w (upd H a o) h' a o) : HOk P w (upd H a o) h' := fun b u e => by
  have hn := x.fresh hp
  by_cases hb : b = a
  · subst hb; rw [upd_same] at e; cases e; exact new
  · rw [upd_ne hb] at e
    exact (x b u e).stay (fun c v _ q => k c v q) (fun c q => by rw [upd_ne (ne_of_none q hn)]; exact q) fun c xs q => by rw [upd_ne (ne_of_none q hn)]; exact q
end

/-- what may be read as u: it is u, or a known u -/
def Rd (H : Hp) (a : Addr) (u : HO) : Prop := H a = some u ∨ ∃ o, H a = some (.frz o u)
theorem Rd.of {H : Hp} {a : Addr} {u : HO} (h : H a = some u) : Rd H a u := .inl h
theorem Rd.ok {P : Program} {w : World} {H : Hp} {h : Heap} {a : Addr} {u : HO} (r : Rd H a u) (x : HOk P w H h) : ObjOk P w H h a u := by
  rcases r with r | ⟨o, r⟩
  · exact x a u r
  · obtain ⟨_, q⟩ := x a _ r
    exact q
/-- what may be written -/
def Mut : Option HO → Prop
  | some (.lst _) => True
  | some (.dK _) => True
  | some (.dT _) => True
  | some (.set _ _) => True
  | some (.ins _ _ _) => True
  | some (.ext _) => True
  | _ => False
section
variable {P : Program} {w : World} {H : Hp} {h h' : Heap} {x e : Addr} {o' : HO}
/-- the object at e is changed: x itself, or the dict of the instance x -/
theorem HOk.write (ok : HOk P w H h) (mu : Mut (H x)) (he : e = x ∨ H e = some (.own x)) (k : ∀ b u, b ≠ e → h.get? b = some u → h'.get? b = some u) (heo : ∃ u, h'.get? e = some u)
    (new : ObjOk P w (upd H x o') h' x o') : HOk P w (upd H x o') h' := fun b u q => by
  have nown : ∀ c y, H c = some (.own y) → c ≠ x := fun c y r z => by subst z; rw [r] at mu; exact mu
  have ntup : ∀ c xs, H c = some (.tup xs) → c ≠ x := fun c xs r z => by subst z; rw [r] at mu; exact mu
  by_cases hb : b = x
  · subst hb; rw [upd_same] at q; cases q; exact new
  · rw [upd_ne hb] at q
    by_cases hbe : b = e
    · have q' : H b = some (.own x) := by
        rcases he with z | z
        · exact absurd (hbe.trans z) hb
        · rw [hbe]; exact z
      rw [q] at q'; cases q'
      obtain ⟨v, hv⟩ := heo
      exact ⟨v, by rw [hbe]; exact hv⟩
    · refine (ok b u q).stay (fun c v hc r => k c v ?_ r) (fun c r => by rw [upd_ne (nown c b r)]; exact r) fun c xs r => by rw [upd_ne (ntup c xs r)]; exact r
      rcases hc with rfl | hc
      · exact hbe
      · rintro rfl
        rcases he with z | z
        · exact nown c b hc z
        · rw [hc] at z; cases z; exact hb rfl
end

/-! ### kept unless tracked; of the frames at fs (the callers') the slots may change (an exception that passes writes there); of the records at ex (iterators) nothing is said -/
structure Un (fs ex : List Addr) (H H' : Hp) (h h' : Heap) : Prop where
  keep : ∀ b o, h.get? b = some o → H b = none → b ∉ fs → b ∉ ex → h'.get? b = some o
  slot : ∀ b o, h.get? b = some o → H b = none → b ∈ fs → b ∉ ex → ∃ sl, h'.get? b = some { o with slots := sl }
  free : ∀ b o, h.get? b = some o → H b = none → b ∉ ex → H' b = none
  there : ∀ b o, h.get? b = some o → b ∉ ex → ∃ o', h'.get? b = some o'
  tups : ∀ b xs, H b = some (.tup xs) → H' b = some (.tup xs)
  frzs : ∀ b o u, H b = some (.frz o u) → H' b = some (.frz o u)
  tbls : ∀ b ps, H b = some (.tbl ps) → ∃ more, H' b = some (.tbl (ps ++ more))
section
variable {fs fs' ex ex' : List Addr} {H H1 H2 : Hp} {h h1 h2 h' : Heap} {a x e : Addr} {o : HO}
theorem Un.any (u : Un fs ex H H1 h h1) {b : Addr} {ob : Obj} (q : h.get? b = some ob) (n : H b = none) (hx : b ∉ ex) : ∃ sl, h1.get? b = some { ob with slots := sl } := by
  by_cases hb : b ∈ fs
  · exact u.slot b ob q n hb hx
  · exact ⟨ob.slots, u.keep b ob q n hb hx⟩
theorem Un.trans (a : Un fs ex H H1 h h1) (b : Un fs ex H1 H2 h1 h2) : Un fs ex H H2 h h2 where
  keep := fun c ob q n hc hx => b.keep c ob (a.keep c ob q n hc hx) (a.free c ob q n hx) hc hx
  slot := fun c ob q n hc hx => by
    obtain ⟨sl, e1⟩ := a.slot c ob q n hc hx
    obtain ⟨sl', e2⟩ := b.slot c _ e1 (a.free c ob q n hx) hc hx
    exact ⟨sl', e2⟩
  free := fun c ob q n hx => by
    obtain ⟨o', e1⟩ := a.there c ob q hx
    exact b.free c o' e1 (a.free c ob q n hx) hx
  there := fun c ob q hx => by
    obtain ⟨o', e1⟩ := a.there c ob q hx
    exact b.there c o' e1 hx
  tups := fun c xs q => b.tups c xs (a.tups c xs q)
  frzs := fun c ob xs q => b.frzs c ob xs (a.frzs c ob xs q)
  tbls := fun c ps q => by
    obtain ⟨m1, e1⟩ := a.tbls c ps q
    obtain ⟨m2, e2⟩ := b.tbls c _ e1
    exact ⟨m1 ++ m2, by rw [e2, Array.append_assoc]⟩
theorem Un.kept (k : ∀ b u, h.get? b = some u → h'.get? b = some u) : Un fs ex H H h h' :=
  ⟨fun b ob q _ _ _ => k b ob q, fun b ob q _ _ _ => ⟨ob.slots, k b ob q⟩, fun _ _ _ n _ => n, fun b ob q _ => ⟨ob, k b ob q⟩, fun _ _ q => q, fun _ _ _ q => q, fun _ ps q => ⟨#[], by rw [q]; simp⟩⟩
theorem Un.refl : Un fs ex H H h h := Un.kept fun _ _ q => q
theorem Un.laid (k : ∀ b u, h.get? b = some u → h'.get? b = some u) (hp : h.objs.size ≤ a) (hn : H a = none) : Un fs ex H (upd H a o) h h' where
  keep := fun b u q _ _ _ => k b u q
  slot := fun b u q _ _ _ => ⟨u.slots, k b u q⟩
  free := fun b u q n _ => by rw [upd_ne (Nat.ne_of_lt (Nat.lt_of_lt_of_le (Heap.lt_size q) hp))]; exact n
  there := fun b u q _ => ⟨u, k b u q⟩
  tups := fun b xs q => by rw [upd_ne (ne_of_none q hn)]; exact q
  frzs := fun b u xs q => by rw [upd_ne (ne_of_none q hn)]; exact q
  tbls := fun b ps q => ⟨#[], by rw [upd_ne (ne_of_none q hn), q]; simp⟩
theorem Un.write (mu : Mut (H x)) (he : e = x ∨ H e = some (.own x)) (k : ∀ b u, b ≠ e → h.get? b = some u → h'.get? b = some u) (heo : ∃ u, h'.get? e = some u) : Un fs ex H (upd H x o) h h' := by
  have hx : ∀ b, H b = none → b ≠ x := fun b n z => by subst z; rw [n] at mu; exact mu
  have hb : ∀ b, H b = none → b ≠ e := fun b n z => by
    subst z
    rcases he with r | r
    · exact hx b n r
    · rw [n] at r; cases r
  have hm : ∀ b u, H b = some u → ¬ Mut (some u) → b ≠ x := fun b u q nm z => by subst z; rw [q] at mu; exact nm mu
  refine ⟨fun b u q n _ _ => k b u (hb b n) q, fun b u q n _ _ => ⟨u.slots, k b u (hb b n) q⟩, fun b u q n _ => by rw [upd_ne (hx b n)]; exact n, fun b u q _ => ?_,
    fun b xs q => by rw [upd_ne (hm b _ q fun z => z)]; exact q, fun b u xs q => by rw [upd_ne (hm b _ q fun z => z)]; exact q, fun b ps q => ⟨#[], by rw [upd_ne (hm b _ q fun z => z), q]; simp⟩⟩
  by_cases hbe : b = e
  · subst hbe; exact heo
  · exact ⟨u, k b u hbe q⟩
theorem Un.mono (u : Un fs ex H H1 h h1) (hs : ∀ b ∈ fs, b ∈ fs') (hx : ∀ b ∈ ex, b ∈ ex') : Un fs' ex' H H1 h h1 :=
  ⟨fun b ob q n hb he => u.keep b ob q n (fun z => hb (hs b z)) fun z => he (hx b z), fun _ _ q n _ he => u.any q n fun z => he (hx _ z), fun b ob q n he => u.free b ob q n fun z => he (hx b z), fun b ob q he => u.there b ob q fun z => he (hx b z), u.tups, u.frzs, u.tbls⟩
end

/-! ### the heap without what is tracked -/
def trk (h : Heap) (H : Hp) : List Addr := (List.range h.objs.size).filter fun a => (H a).isSome
def hidT (h : Heap) (H : Hp) : Heap := PySem.W.hideAll h (trk h H)
theorem hidT_size (h : Heap) (H : Hp) : (hidT h H).objs.size = h.objs.size := PySem.W.hideAll_size _ _
theorem hidT_get {h : Heap} {H : Hp} {b : Addr} {o : Obj} (e : h.get? b = some o) (n : H b = none) : (hidT h H).get? b = some o :=
  PySem.W.hideAll_get _ e fun hm => by
    have q : (H b).isSome = true := (List.mem_filter.mp hm).2
    rw [n] at q; simp at q
theorem of_hidT {h : Heap} {H : Hp} {b : Addr} {o : Obj} (e : (hidT h H).get? b = some o) : h.get? b = some o ∧ H b = none := by
  have e' : h.get? b = some o := PySem.W.of_hideAll (trk h H) e
  refine ⟨e', ?_⟩
  cases q : H b with
  | none => rfl
  | some x =>
    have hm : b ∈ trk h H := List.mem_filter.mpr ⟨List.mem_range.mpr (Heap.lt_size e'), by simp [q]⟩
    have z : (hidT h H).get? b = none := PySem.W.hideAll_none (trk h H) hm
    rw [z] at e; cases e

/-! ### OpenK's ledger, filled with every new object but one -/
def allNews (g h : Heap) (L : Addr) : List (Addr × Obj) := (List.range h.objs.size).filterMap fun a => if a = L ∨ (g.get? a).isSome = true then none else (h.get? a).map fun o => (a, o)
def rest (g h : Heap) (L d : Addr) : List (Addr × Obj) := (allNews g h L).filter fun p => decide (p.1 ≠ d)
end L2

namespace L2
open PySem PySem.Spec PyProof.Rows

/-- the module's facts, over the base: the heap at the law's entry without what is tracked there -/
structure Mod (K : PySem.W.Frag) (mg : Str → Option Value) (base : Heap) : Prop where
  kin : K.In base
  glob : base.Ns mainGlobals mg
  blt : ∃ mb, base.Ns builtinsNs mb ∧ ∀ x : Str, x ≠ "__name__" → mb x = bootBuiltins x
  nolimit : base.NoLimit

/-- the context: a def's body (or a comprehension's block) running. base: fixed through the whole law; s₀, H₀: the entry; outer: the frames whose slots others may change (a def's callers); stack: all frames that run;
   ex: iterators that were made ahead of the entry and are walked here (a comprehension's); fn: the names whose cells were made at the entry (a def: all; a comprehension's block: its own); calm: not within an except suite; pn: pins that every state bears; xe: what is wanted of an exception that leaves the code -/
structure Cx where
  prog : Program
  w : World
  K : PySem.W.Frag
  mg : Str → Option Value
  base : Heap
  A : Around
  N : List Str
  s₀ : Shared
  H₀ : Hp
  env : Env
  outer : List Env
  stack : List Env
  ex : List Addr
  fn : Str → Bool
  calm : Bool
  pn : List (Addr × Obj)
  xe : Value → Shared → Prop
/-- the callers' frames -/
def frs (l : List Env) : List Addr := l.filterMap (·.frame)
abbrev Cx.fs (X : Cx) : List Addr := frs X.outer

def Vis (sc : Scope) (x : Str) : Prop := sc.names.lookup x = some .local ∨ sc.names.lookup x = some .cell ∨ sc.names.lookup x = some .free
def Loc (sc : Scope) (x : Str) : Prop := sc.names.lookup x = some .local ∨ sc.names.lookup x = some .cell
def Look (env : Env) (h : Heap) (m : Str → Option Value) (x : Str) (u : Value) : Prop :=
  (env.kindOf x = some .local ∧ m x = some u) ∨ ((env.kindOf x = some .cell ∨ env.kindOf x = some .free) ∧ ∃ c, env.cells.lookup x = some c ∧ h.IsCell c (some u))

structure Cx.Ok (X : Cx) : Prop where
  mod : Mod X.K X.mg X.base
  kind : X.env.scope.kind = .function
  glob : X.env.globals = mainGlobals
  blt : X.env.builtins = builtinsNs
  above : X.s₀.heap.objs.size ≤ X.env.locals
  inj : ∀ x y c, X.env.cells.lookup x = some c → X.env.cells.lookup y = some c → x = y
  has : ∀ x, (X.env.kindOf x = some .cell ∨ X.env.kindOf x = some .free) → ∃ c, X.env.cells.lookup x = some c
  cab : ∀ x c, X.fn x = true → X.env.cells.lookup x = some c → X.s₀.heap.objs.size ≤ c
  hd : X.calm = true → X.A.handled = none
  frames : X.A.frames = some X.stack
  stk : X.stack = X.outer ∨ (X.stack = X.env :: X.outer ∧ X.env.frame = some X.env.locals)
  exf : ∀ b ∈ X.ex, b ≠ X.env.locals ∧ ∀ x c, X.env.cells.lookup x = some c → c ≠ b
  bs : ∀ b o, X.base.get? b = some o → X.s₀.heap.get? b = some o ∧ X.H₀ b = none
  bsz : X.base.objs.size ≤ X.s₀.heap.objs.size
  noex : ∀ b o, X.base.get? b = some o → b ∉ X.ex
  exfs : ∀ b ∈ X.ex, b ∉ X.fs
  funs : X.s₀.heap.FunFrames X.base X.outer
  frf : ∀ b ∈ X.fs, X.H₀ b = none

structure Inv (X : Cx) (pins : List (Addr × Obj)) (σ : List (Option V)) (H : Hp) (s : Shared) : Prop where
  ok : X.Ok
  os : s.os = X.s₀.os
  bare : AllBare s.gens
  base : Un X.fs X.ex X.H₀ H X.s₀.heap s.heap
  loc : ∃ m, s.heap.Ns X.env.locals m ∧ ∀ (i : Nat) (x : Str) (v : V), X.N[i]? = some x → σ[i]? = some (some v) → Vis X.env.scope x → ∃ u, RelV v u ∧ Look X.env s.heap m x u
  cell : ∀ x c, X.env.cells.lookup x = some c → ∃ v, s.heap.IsCell c v
  free : H X.env.locals = none
  freeC : ∀ x c, X.env.cells.lookup x = some c → H c = none
  pin : ∀ p ∈ X.pn ++ pins, s.heap.get? p.1 = some p.2 ∧ H p.1 = none ∧ p.1 ≠ X.env.locals ∧ p.1 ∉ X.fs ∧ ∀ v, p.2.data ≠ .cell v
  hok : HOk X.prog X.w H s.heap
  len : σ.length = X.N.length

section
variable {X : Cx} {pins : List (Addr × Obj)} {σ : List (Option V)} {H H' : Hp} {s : Shared} {h' : Heap}

theorem Cx.Ok.nofr (ok : X.Ok) {b : Addr} {o : Obj} (e : X.base.get? b = some o) : b ∉ X.fs := fun hb => by
  have := (ok.funs.mem hb).1
  rw [e] at this; cases this
theorem Inv.bs (I : Inv X pins σ H s) : ∀ b o, X.base.get? b = some o → s.heap.get? b = some o ∧ H b = none := fun b o e =>
  ⟨I.base.keep b o (I.ok.bs b o e).1 (I.ok.bs b o e).2 (I.ok.nofr e) (I.ok.noex b o e), I.base.free b o (I.ok.bs b o e).1 (I.ok.bs b o e).2 (I.ok.noex b o e)⟩
theorem Inv.bk (I : Inv X pins σ H s) : ∀ b o, X.base.get? b = some o → s.heap.get? b = some o := fun b o e => (I.bs b o e).1
theorem Inv.mod (I : Inv X pins σ H s) : Mod X.K X.mg X.base := I.ok.mod
theorem Inv.kIn (I : Inv X pins σ H s) : X.K.In s.heap := I.ok.mod.kin.keeps I.bk
theorem Inv.nolimit (I : Inv X pins σ H s) : s.heap.NoLimit := I.ok.mod.nolimit.keeps I.bk
theorem Inv.lt (I : Inv X pins σ H s) : X.env.locals < s.heap.objs.size := let ⟨_, hn, _⟩ := I.loc; hn.lt
theorem Inv.sz (I : Inv X pins σ H s) : X.s₀.heap.objs.size ≤ s.heap.objs.size := Nat.le_trans I.ok.above (Nat.le_of_lt I.lt)
theorem Inv.nofs (I : Inv X pins σ H s) {a : Addr} (h : s.heap.objs.size ≤ a) : a ∉ X.fs := fun hb => by
  obtain ⟨_, o, ho, _⟩ := I.ok.funs.mem hb
  exact absurd (Nat.lt_of_lt_of_le (Heap.lt_size ho) (Nat.le_trans I.sz h)) (Nat.lt_irrefl _)
theorem Inv.cne (I : Inv X pins σ H s) : ∀ x c, X.env.cells.lookup x = some c → c ≠ X.env.locals := fun x c e z => by
  obtain ⟨v, o, ho, hd⟩ := I.cell x c e
  obtain ⟨m, ⟨o', es, ep, ho', hd', _⟩, _⟩ := I.loc
  rw [z, ho'] at ho; cases ho; rw [hd'] at hd; cases hd
theorem Inv.funs (I : Inv X pins σ H s) : s.heap.FunFrames X.base X.outer := by
  have all : ∀ (l : List Env), (∀ b ∈ frs l, b ∈ X.fs) → X.s₀.heap.FunFrames X.base l → s.heap.FunFrames X.base l := by
    intro l
    induction l with
    | nil => intro _ _; trivial
    | cons env r ih =>
      intro hs hl
      obtain ⟨hk, ⟨L, o, hf, hn, ho, hd⟩, hr⟩ := hl
      have hL : L ∈ X.fs := hs L (by unfold frs; rw [List.filterMap_cons, hf]; exact List.mem_cons_self)
      obtain ⟨sl, e⟩ := I.base.slot L o ho (I.ok.frf L hL) hL fun z => I.ok.exfs L z hL
      exact ⟨hk, ⟨L, _, hf, hn, e, hd⟩, ih (fun b hb => hs b (by unfold frs; rw [List.filterMap_cons, hf]; exact List.mem_cons_of_mem _ hb)) hr⟩
  exact all X.outer (fun _ hb => hb) I.ok.funs

/-- the frames that run, for a call -/
theorem Inv.stack (I : Inv X pins σ H s) : s.heap.FunFrames X.base X.stack := by
  rcases I.ok.stk with e | ⟨e, hf⟩
  · rw [e]; exact I.funs
  · rw [e]
    obtain ⟨m, hn, _⟩ := I.loc
    refine .cons (by rw [I.ok.kind]; decide) hf hn ?_ I.funs
    exact Heap.get?_none_of_le (Nat.le_trans I.ok.bsz I.ok.above)
theorem Inv.stkSub (I : Inv X pins σ H s) : ∀ b ∈ frs X.stack, b ∈ X.env.locals :: X.fs := fun b hb => by
  rcases I.ok.stk with e | ⟨e, hf⟩
  · rw [e] at hb; exact List.mem_cons_of_mem _ hb
  · rw [e] at hb
    unfold frs at hb
    rw [List.filterMap_cons, hf] at hb
    exact hb
theorem Inv.stkFree (I : Inv X pins σ H s) : ∀ b ∈ frs X.stack, H b = none := fun b hb => by
  rcases List.mem_cons.mp (I.stkSub b hb) with e | hb
  · rw [e]; exact I.free
  · obtain ⟨_, o, ho, _⟩ := I.ok.funs.mem hb
    exact I.base.free b o ho (I.ok.frf b hb) fun z => I.ok.exfs b z hb

/-- THE STEP: the untracked objects but the frame and the records at ch are kept (the callers' frames up to slots), the frame's map is kept, the new abstract heap is held -/
theorem Inv.step {g' : Array GenState} {t' : Nat} {d' : Drawn} {ch : List Addr} (I : Inv X pins σ H s)
    (hch : ∀ b ∈ ch, (b ∈ X.ex ∨ X.s₀.heap.objs.size ≤ b) ∧ b ≠ X.env.locals ∧ (∀ x c, X.env.cells.lookup x = some c → c ≠ b) ∧ ∀ p ∈ X.pn ++ pins, p.1 ≠ b)
    (keep : ∀ b o, b ≠ X.env.locals → b ∉ X.fs → b ∉ ch → s.heap.get? b = some o → H b = none → h'.get? b = some o)
    (slot : ∀ b o, b ≠ X.env.locals → b ∈ X.fs → b ∉ ch → s.heap.get? b = some o → H b = none → ∃ sl, h'.get? b = some { o with slots := sl }) (free : ∀ b o, b ∉ ch → s.heap.get? b = some o → H b = none → H' b = none)
    (there : ∀ b o, b ∉ ch → s.heap.get? b = some o → ∃ o', h'.get? b = some o')
    (tups : ∀ b xs, H b = some (.tup xs) → H' b = some (.tup xs)) (frzs : ∀ b o u, H b = some (.frz o u) → H' b = some (.frz o u)) (tbls : ∀ b ps, H b = some (.tbl ps) → ∃ more, H' b = some (.tbl (ps ++ more)))
    (ns : ∀ m, s.heap.Ns X.env.locals m → h'.Ns X.env.locals m) (hok : HOk X.prog X.w H' h') (hg : AllBare g') :
    Inv X pins σ H' { s with heap := h', gens := g', drawn := d', toks := t' } := by
  have neL : ∀ b o, X.s₀.heap.get? b = some o → b ≠ X.env.locals := fun b o e => Nat.ne_of_lt (Nat.lt_of_lt_of_le (Heap.lt_size e) I.ok.above)
  have neC : ∀ b o, X.s₀.heap.get? b = some o → b ∉ X.ex → b ∉ ch := fun b o e hx hb => by
    rcases (hch b hb).1 with z | z
    · exact hx z
    · exact absurd (Nat.lt_of_lt_of_le (Heap.lt_size e) z) (Nat.lt_irrefl _)
  have cellK : ∀ x c, X.env.cells.lookup x = some c → ∀ v, s.heap.IsCell c v → h'.IsCell c v := fun x c e v ⟨o, ho, hd⟩ => by
    have nch : c ∉ ch := fun z => (hch c z).2.2.1 x c e rfl
    by_cases hc : c ∈ X.fs
    · obtain ⟨sl, q⟩ := slot c o (I.cne x c e) hc nch ho (I.freeC x c e)
      exact ⟨_, q, hd⟩
    · exact ⟨o, keep c o (I.cne x c e) hc nch ho (I.freeC x c e), hd⟩
  refine ⟨I.ok, I.os, hg, ⟨fun b o e n hb hx => ?_, fun b o e n hb hx => ?_, fun b o e n hx => ?_, fun b o e hx => ?_, fun b xs e => tups b xs (I.base.tups b xs e), fun b o xs e => frzs b o xs (I.base.frzs b o xs e), fun b ps e => ?_⟩, ?_, fun x c e => ?_, ?_, fun x c e => ?_, fun p hp => ?_, hok, I.len⟩
  · exact keep b o (neL b o e) hb (neC b o e hx) (I.base.keep b o e n hb hx) (I.base.free b o e n hx)
  · obtain ⟨sl, e1⟩ := I.base.slot b o e n hb hx
    obtain ⟨sl', e2⟩ := slot b _ (neL b o e) hb (neC b o e hx) e1 (I.base.free b o e n hx)
    exact ⟨sl', e2⟩
  · obtain ⟨o', e1⟩ := I.base.there b o e hx
    exact free b o' (neC b o e hx) e1 (I.base.free b o e n hx)
  · obtain ⟨o', e1⟩ := I.base.there b o e hx
    exact there b o' (neC b o e hx) e1
  · obtain ⟨m1, e1⟩ := I.base.tbls b ps e
    obtain ⟨m2, e2⟩ := tbls b _ e1
    exact ⟨m1 ++ m2, by rw [e2, Array.append_assoc]⟩
  · obtain ⟨m, hn, hl⟩ := I.loc
    refine ⟨m, ns m hn, fun i x v e1 e2 e3 => ?_⟩
    obtain ⟨u, r, l⟩ := hl i x v e1 e2 e3
    refine ⟨u, r, ?_⟩
    rcases l with l | ⟨k, c, e, z⟩
    · exact .inl l
    · exact .inr ⟨k, c, e, cellK x c e _ z⟩
  · obtain ⟨v, z⟩ := I.cell x c e
    exact ⟨v, cellK x c e v z⟩
  · obtain ⟨m, ⟨o, _, _, ho, _⟩, _⟩ := I.loc
    exact free _ o (fun z => (hch _ z).2.1 rfl) ho I.free
  · obtain ⟨v, o, ho, hd⟩ := I.cell x c e
    exact free c o (fun z => (hch c z).2.2.1 x c e rfl) ho (I.freeC x c e)
  · obtain ⟨e, n, ne, nf, d⟩ := I.pin p hp
    have nch : p.1 ∉ ch := fun z => (hch p.1 z).2.2.2 p hp rfl
    exact ⟨keep p.1 p.2 ne nf nch e n, free p.1 p.2 nch e n, ne, nf, d⟩
/-- .. where the frame's own object is kept too -/
theorem Inv.un {t' : Nat} (I : Inv X pins σ H s) (u : Un X.fs [] H H' s.heap h') (hok : HOk X.prog X.w H' h') : Inv X pins σ H' { s with heap := h', toks := t' } := by
  obtain ⟨m, ⟨o, es, ep, ho, r⟩, _⟩ := id I.loc
  obtain ⟨sl, hL⟩ := u.any ho I.free (by simp)
  exact I.step (g' := s.gens) (d' := s.drawn) (ch := []) (fun _ z => nomatch z) (fun b o _ hb _ e n => u.keep b o e n hb (by simp)) (fun b o _ hb _ e n => u.slot b o e n hb (by simp)) (fun b o _ e n => u.free b o e n (by simp)) (fun b o _ e => u.there b o e (by simp)) u.tups u.frzs u.tbls (fun m' hm => by
    obtain ⟨o', es', ep', ho', r'⟩ := hm
    rw [ho] at ho'; cases ho'
    exact ⟨_, es', ep', hL, r'⟩) hok I.bare
/-- behind a call (or a comprehension's block): the slots of this frame may have changed too, the records at ch may have turned -/
theorem Inv.call {g' : Array GenState} {t' : Nat} {d' : Drawn} {ch : List Addr} (I : Inv X pins σ H s) (u : Un (frs X.stack) ch H H' s.heap h') (hok : HOk X.prog X.w H' h') (hg : AllBare g')
    (hch : ∀ b ∈ ch, (b ∈ X.ex ∨ X.s₀.heap.objs.size ≤ b) ∧ b ≠ X.env.locals ∧ (∀ x c, X.env.cells.lookup x = some c → c ≠ b) ∧ ∀ p ∈ X.pn ++ pins, p.1 ≠ b) :
    Inv X pins σ H' { s with heap := h', gens := g', drawn := d', toks := t' } := by
  obtain ⟨m, ⟨o, es, ep, ho, r⟩, _⟩ := id I.loc
  obtain ⟨sl, hL⟩ := u.any ho I.free fun z => (hch _ z).2.1 rfl
  exact I.step (ch := ch) hch (fun b o hL hb hc e n => u.keep b o e n (fun z => (List.mem_cons.mp (I.stkSub b z)).elim hL hb) hc) (fun b o _ _ hc e n => u.any e n hc) (fun b o hc e n => u.free b o e n hc) (fun b o hc e => u.there b o e hc) u.tups u.frzs u.tbls (fun m' hm => by
    obtain ⟨o', es', ep', ho', r'⟩ := hm
    rw [ho] at ho'; cases ho'
    exact ⟨_, es', ep', hL, r'⟩) hok hg
/-- an untracked record of ours (an iterator) has turned -/
theorem Inv.turned {t' : Nat} {it : Addr} (I : Inv X pins σ H s) (k : ∀ b o, b ≠ it → s.heap.get? b = some o → h'.get? b = some o) (hn : H it = none) (hL : it ≠ X.env.locals)
    (h1 : it ∈ X.ex ∨ X.s₀.heap.objs.size ≤ it) (h2 : ∀ x c, X.env.cells.lookup x = some c → c ≠ it) (h3 : ∀ p ∈ X.pn ++ pins, p.1 ≠ it) : Inv X pins σ H { s with heap := h', toks := t' } := by
  have nit : ∀ b u, H b = some u → b ≠ it := fun b u e z => by rw [z, hn] at e; cases e
  refine I.step (g' := s.gens) (d' := s.drawn) (ch := [it]) (fun b hb => ?_) (fun b o _ _ hc e _ => k b o (fun z => hc (by simp [z])) e) (fun b o _ _ hc e _ => ⟨o.slots, k b o (fun z => hc (by simp [z])) e⟩) (fun _ _ _ _ n => n)
    (fun b o hc e => ⟨o, k b o (fun z => hc (by simp [z])) e⟩) (fun _ _ e => e) (fun _ _ _ e => e) (fun b ps e => ⟨#[], by rw [e]; simp⟩) (fun m hm => ?_) (fun b u e => ?_) I.bare
  · have e : b = it := by simpa using hb
    subst e
    exact ⟨h1, hL, h2, h3⟩
  · obtain ⟨o, es, ep, ho, r⟩ := hm
    exact ⟨o, es, ep, k _ o (Ne.symm hL) ho, r⟩
  · refine (I.hok b u e).stay (fun c v hc q => k c v ?_ q) (fun _ q => q) fun _ _ q => q
    rcases hc with z | z
    · rw [z]; exact nit b u e
    · exact nit c _ z
theorem Inv.tok (I : Inv X pins σ H s) (t : Nat) : Inv X pins σ H { s with toks := t } := I.un (h' := s.heap) (t' := t) Un.refl I.hok
/-- all objects kept -/
theorem Inv.kept {t' : Nat} (I : Inv X pins σ H s) (k : ∀ b u, s.heap.get? b = some u → h'.get? b = some u) : Inv X pins σ H { s with heap := h', toks := t' } := I.un (Un.kept k) (I.hok.kept k)
/-- a new object laid and tracked -/
theorem Inv.laid {a : Addr} {o : HO} {t' : Nat} (I : Inv X pins σ H s) (k : ∀ b u, s.heap.get? b = some u → h'.get? b = some u) (hp : s.heap.objs.size ≤ a) (new : ObjOk X.prog X.w (upd H a o) h' a o) :
    Inv X pins σ (upd H a o) { s with heap := h', toks := t' } := I.un (Un.laid k hp (I.hok.fresh hp)) (I.hok.laid k hp new)
/-- an object written -/
theorem Inv.write {x e : Addr} {o : HO} {t' : Nat} (I : Inv X pins σ H s) (mu : Mut (H x)) (he : e = x ∨ H e = some (.own x)) (k : ∀ b u, b ≠ e → s.heap.get? b = some u → h'.get? b = some u) (heo : ∃ u, h'.get? e = some u)
    (new : ObjOk X.prog X.w (upd H x o) h' x o) : Inv X pins σ (upd H x o) { s with heap := h', toks := t' } := I.un (Un.write mu he k heo) (I.hok.write mu he k heo new)
/-- forgetting slots, pins -/
theorem Inv.weak {σ' : List (Option V)} (I : Inv X pins σ H s) (hl : σ'.length = σ.length) (w : ∀ (i : Nat) v, σ'[i]? = some (some v) → σ[i]? = some (some v)) : Inv X pins σ' H s :=
  ⟨I.ok, I.os, I.bare, I.base, let ⟨m, hn, hl'⟩ := I.loc; ⟨m, hn, fun i x v e1 e2 e3 => hl' i x v e1 (w i v e2) e3⟩, I.cell, I.free, I.freeC, I.pin, I.hok, hl.trans I.len⟩
theorem Inv.pins_of {pins' : List (Addr × Obj)} (I : Inv X pins σ H s) (h : ∀ p ∈ pins', s.heap.get? p.1 = some p.2 ∧ H p.1 = none ∧ p.1 ≠ X.env.locals ∧ p.1 ∉ X.fs ∧ ∀ v, p.2.data ≠ .cell v) : Inv X pins' σ H s :=
  ⟨I.ok, I.os, I.bare, I.base, I.loc, I.cell, I.free, I.freeC, fun p hp => (List.mem_append.mp hp).elim (fun z => I.pin p (List.mem_append_left _ z)) (h p), I.hok, I.len⟩

theorem nodup_ix {N : List Str} (hN : N.Nodup) {i j : Nat} {x : Str} (a : N[i]? = some x) (b : N[j]? = some x) : i = j := by
  obtain ⟨h1, e1⟩ := List.getElem?_eq_some_iff.mp a
  obtain ⟨h2, e2⟩ := List.getElem?_eq_some_iff.mp b
  exact (List.getElem_inj hN).mp (e1.trans e2.symm)

/-- a name is stored; what changed -/
theorem store_ok2 {M : Model} {A : Around} {E : Value → Shared → Prop} {i : Nat} {x : Str} {v : V} {u : Value} {Q : Unit → Shared → Prop} (I : Inv X pins σ H s) (hN : X.N.Nodup) (hi : X.N[i]? = some x) (hx : Loc X.env.scope x) (r : RelV v u)
    (h : ∀ s', Inv X pins (σ.set i (some v)) H s' → (∃ a, Heap.SameBut a s.heap s'.heap ∧ (a = X.env.locals ∨ X.env.cells.lookup x = some a)) → Q () s') (hf : X.fn x = true ∨ X.env.scope.names.lookup x = some .local := by first | exact .inl rfl | exact .inr rfl | assumption) : wpAny M A (storeName X.env x u) Q E s := by
  obtain ⟨m, hn, hl⟩ := id I.loc
  have hcls : (X.env.scope.kind == .class || (X.env.scope.kind == .module && X.env.locals != X.env.globals)) = false := by rw [I.ok.kind]; rfl
  have hiσ : i < σ.length := by rw [I.len]; exact (List.getElem?_eq_some_iff.mp hi).1
  have cne := I.cne
  have tracked : ∀ {a : Addr} {h' : Heap}, (∃ o, s.heap.get? a = some o ∧ H a = none) → Heap.SameBut a s.heap h' → HOk X.prog X.w H h' := fun {a h'} ha hs b ob e => by
    obtain ⟨_, _, hfree⟩ := ha
    refine (I.hok b ob e).stay (fun c w' hc q => (hs.2 c ?_).trans q) (fun _ q => q) fun _ _ q => q
    rintro rfl
    rcases hc with rfl | hc
    · rw [hfree] at e; cases e
    · rw [hfree] at hc; cases hc
  rcases hx with hk | hk
  · refine wpAny_storeName_local hk hn (fun h' hn' hs => ?_) hcls
    obtain ⟨oL, _, _, hoL, _⟩ := id hn
    refine h _ ⟨I.ok, I.os, I.bare, ⟨fun b o e n hb hx => ?_, fun b o e n hb hx => ?_, I.base.free, fun b o e hx => ?_, I.base.tups, I.base.frzs, I.base.tbls⟩, ⟨_, hn', fun j y v' e1 e2 e3 => ?_⟩, fun y c e => ?_, I.free, I.freeC, fun p hp => ?_, tracked ⟨oL, hoL, I.free⟩ hs, by simpa using I.len⟩ ⟨_, hs, .inl rfl⟩
    · exact (hs.2 b (Nat.ne_of_lt (Nat.lt_of_lt_of_le (Heap.lt_size e) I.ok.above))).trans (I.base.keep b o e n hb hx)
    · obtain ⟨sl, e1⟩ := I.base.slot b o e n hb hx
      exact ⟨sl, (hs.2 b (Nat.ne_of_lt (Nat.lt_of_lt_of_le (Heap.lt_size e) I.ok.above))).trans e1⟩
    · obtain ⟨o', e1⟩ := I.base.there b o e hx
      exact ⟨o', (hs.2 b (Nat.ne_of_lt (Nat.lt_of_lt_of_le (Heap.lt_size e) I.ok.above))).trans e1⟩
    · by_cases hj : j = i
      · subst hj
        rw [hi] at e1; cases e1
        rw [List.getElem?_set_self hiσ] at e2
        cases e2
        exact ⟨u, r, .inl ⟨hk, by simp⟩⟩
      · rw [List.getElem?_set_ne (Ne.symm hj)] at e2
        obtain ⟨u', r', q⟩ := hl j y v' e1 e2 e3
        refine ⟨u', r', ?_⟩
        rcases q with ⟨k, e⟩ | ⟨k, c, e, z⟩
        · refine .inl ⟨k, ?_⟩
          have : y ≠ x := fun e => hj (nodup_ix hN e1 (e ▸ hi))
          simp [this, e]
        · exact .inr ⟨k, c, e, z.sameBut hs (cne y c e)⟩
    · obtain ⟨w', z⟩ := I.cell y c e
      exact ⟨w', z.sameBut hs (cne y c e)⟩
    · obtain ⟨e, n, ne, nf, d⟩ := I.pin p hp
      exact ⟨(hs.2 p.1 ne).trans e, n, ne, nf, d⟩
  · have hfn : X.fn x = true := by
      rcases hf with z | z
      · exact z
      · rw [z] at hk; cases hk
    obtain ⟨c, hc⟩ := I.ok.has x (.inl hk)
    obtain ⟨w', z⟩ := I.cell x c hc
    refine wpAny_storeName_cell I.ok.kind hk hc z (fun h' hc' hs => ?_)
    obtain ⟨oc, hoc, hocd⟩ := id z
    refine h { s with heap := h' } ⟨I.ok, I.os, I.bare, ⟨fun b o e n hb hx => ?_, fun b o e n hb hx => ?_, I.base.free, fun b o e hx => ?_, I.base.tups, I.base.frzs, I.base.tbls⟩, ⟨m, hn.sameBut hs (Ne.symm (cne x c hc)), fun j y v' e1 e2 e3 => ?_⟩, fun y c' e => ?_, I.free, I.freeC, fun p hp => ?_, tracked ⟨oc, hoc, I.freeC x c hc⟩ hs, by simpa using I.len⟩ ⟨c, hs, .inr hc⟩
    · exact (hs.2 b (Nat.ne_of_lt (Nat.lt_of_lt_of_le (Heap.lt_size e) (I.ok.cab x c hfn hc)))).trans (I.base.keep b o e n hb hx)
    · obtain ⟨sl, e1⟩ := I.base.slot b o e n hb hx
      exact ⟨sl, (hs.2 b (Nat.ne_of_lt (Nat.lt_of_lt_of_le (Heap.lt_size e) (I.ok.cab x c hfn hc)))).trans e1⟩
    · obtain ⟨o', e1⟩ := I.base.there b o e hx
      exact ⟨o', (hs.2 b (Nat.ne_of_lt (Nat.lt_of_lt_of_le (Heap.lt_size e) (I.ok.cab x c hfn hc)))).trans e1⟩
    · by_cases hj : j = i
      · subst hj
        rw [hi] at e1; cases e1
        rw [List.getElem?_set_self hiσ] at e2
        cases e2
        exact ⟨u, r, .inr ⟨.inl hk, c, hc, hc'⟩⟩
      · rw [List.getElem?_set_ne (Ne.symm hj)] at e2
        obtain ⟨u', r', q⟩ := hl j y v' e1 e2 e3
        refine ⟨u', r', ?_⟩
        rcases q with q | ⟨k, c', e, z'⟩
        · exact .inl q
        · refine .inr ⟨k, c', e, z'.sameBut hs ?_⟩
          rintro rfl
          exact hj (nodup_ix hN e1 (I.ok.inj _ _ _ e hc ▸ hi))
    · by_cases hcc : c' = c
      · subst hcc; exact ⟨_, hc'⟩
      · obtain ⟨w2, z2⟩ := I.cell y c' e
        exact ⟨w2, z2.sameBut hs hcc⟩
    · obtain ⟨e, n, ne, nf, d⟩ := I.pin p hp
      refine ⟨(hs.2 p.1 ?_).trans e, n, ne, nf, d⟩
      intro q
      rw [q, hoc] at e
      have q' : oc = p.2 := Option.some.inj e
      exact d w' (by rw [← q']; exact hocd)
theorem store_ok {M : Model} {A : Around} {E : Value → Shared → Prop} {i : Nat} {x : Str} {v : V} {u : Value} {Q : Unit → Shared → Prop} (I : Inv X pins σ H s) (hN : X.N.Nodup) (hi : X.N[i]? = some x) (hx : Loc X.env.scope x) (r : RelV v u)
    (h : ∀ s', Inv X pins (σ.set i (some v)) H s' → Q () s') (hf : X.fn x = true ∨ X.env.scope.names.lookup x = some .local := by first | exact .inl rfl | exact .inr rfl | assumption) : wpAny M A (storeName X.env x u) Q E s :=
  store_ok2 I hN hi hx r (fun s' I' _ => h s' I') hf
/-- behind a call or a block, the state as it is -/
theorem Inv.call' {s' : Shared} {ch : List Addr} (I : Inv X pins σ H s) (ho : s'.os = s.os) (u : Un (frs X.stack) ch H H' s.heap s'.heap) (hok : HOk X.prog X.w H' s'.heap) (hg : AllBare s'.gens)
    (hch : ∀ b ∈ ch, (b ∈ X.ex ∨ X.s₀.heap.objs.size ≤ b) ∧ b ≠ X.env.locals ∧ (∀ x c, X.env.cells.lookup x = some c → c ≠ b) ∧ ∀ p ∈ X.pn ++ pins, p.1 ≠ b) : Inv X pins σ H' s' := by
  obtain ⟨h', g', d', t', o'⟩ := s'
  have e : o' = s.os := ho
  subst e
  exact I.call (g' := g') (t' := t') (d' := d') u hok hg hch
end

/-! ### the judgements -/
/-- an exception: its class, its own dict's address (where it has one), the abstract heap behind it -/
abbrev XK := Value → Option Addr → Hp → Prop
abbrev St := List (Option V)
abbrev VK := V → Hp → Prop
/-- an expression's reading; a test's; an argument list's -/
abbrev TE := St → Hp → VK → Prop
abbrev TT := St → Hp → (Bool → Hp → Prop) → Prop
abbrev TA := St → Hp → (List V → Hp → Prop) → Prop
/-- what is wanted behind a statement -/
structure Ends where
  nx : St → Hp → Prop
  rt : VK
  bk : St → Hp → Prop := fun _ _ => False
  ct : St → Hp → Prop := fun _ _ => False
abbrev TS := Ends → St → Hp → Prop

def EP (X : Cx) (pins : List (Addr × Obj)) (σ : St) (Q : VK) (u : Value) (s' : Shared) : Prop := ∃ v H', Inv X pins σ H' s' ∧ RelV v u ∧ Q v H'
def TP (X : Cx) (pins : List (Addr × Obj)) (σ : St) (Q : Bool → Hp → Prop) (b : Bool) (s' : Shared) : Prop := ∃ H', Inv X pins σ H' s' ∧ Q b H'
def AP (X : Cx) (pins : List (Addr × Obj)) (σ : St) (Q : List V → Hp → Prop) (us : List Value) (s' : Shared) : Prop := ∃ vs H', Inv X pins σ H' s' ∧ Vals vs us ∧ Q vs H'
def SP (X : Cx) (pins : List (Addr × Obj)) (D : Ends) (f : Flow) (s' : Shared) : Prop :=
  match f with
  | .next => ∃ σ' H', Inv X pins σ' H' s' ∧ D.nx σ' H'
  | .brk => ∃ σ' H', Inv X pins σ' H' s' ∧ D.bk σ' H'
  | .cont => ∃ σ' H', Inv X pins σ' H' s' ∧ D.ct σ' H'
  | .ret u => ∃ v σ' H', Inv X pins σ' H' s' ∧ RelV v u ∧ D.rt v H'

def PE (X : Cx) (e : Expr) (t : TE) : Prop :=
  ∀ (pins : List (Addr × Obj)) (s : Shared) (σ : St) (H : Hp) (Q : VK), Inv X pins σ H s → t σ H Q → wpAny (model X.prog X.w) X.A (eval e X.env) (EP X pins σ Q) X.xe s
def PT (X : Cx) (e : Expr) (t : TT) : Prop :=
  ∀ (pins : List (Addr × Obj)) (s : Shared) (σ : St) (H : Hp) (Q : Bool → Hp → Prop), Inv X pins σ H s → t σ H Q → wpAny (model X.prog X.w) X.A (isTrue e X.env (eval e X.env)) (TP X pins σ Q) X.xe s
/-- a test whatever its 'whole' is (and, or) -/
def PW (X : Cx) (e : Expr) (t : TT) : Prop :=
  ∀ (whole : Sem Value) (pins : List (Addr × Obj)) (s : Shared) (σ : St) (H : Hp) (Q : Bool → Hp → Prop), Inv X pins σ H s → t σ H Q → wpAny (model X.prog X.w) X.A (isTrue e X.env whole) (TP X pins σ Q) X.xe s
theorem PW.pt {X : Cx} {e : Expr} {t : TT} (h : PW X e t) : PT X e t := h _
/-- an argument list (no star), from the left -/
def PA (X : Cx) (es : List Expr) (t : TA) : Prop :=
  ∀ (pos : Pos) (pins : List (Addr × Obj)) (s : Shared) (σ : St) (H : Hp) (Q : List V → Hp → Prop), Inv X pins σ H s → t σ H Q → wpAny (model X.prog X.w) X.A (spliced (backTo pos (starEach es X.env))) (AP X pins σ Q) X.xe s
def PS (X : Cx) (st : Stmt) (t : TS) : Prop :=
  ∀ (pins : List (Addr × Obj)) (s : Shared) (σ : St) (H : Hp) (D : Ends), Inv X pins σ H s → t D σ H → wpAny (model X.prog X.w) X.A (exec st X.env) (SP X pins D) X.xe s
def PSs (X : Cx) (st : List Stmt) (t : TS) : Prop :=
  ∀ (pins : List (Addr × Obj)) (s : Shared) (σ : St) (H : Hp) (D : Ends), Inv X pins σ H s → t D σ H → wpAny (model X.prog X.w) X.A (execs st X.env) (SP X pins D) X.xe s
/-- weaken the end -/
theorem thn {α : Type} {t : Sem α} {Q Q' : α → Shared → Prop} {M : Model} {A : Around} {E : Value → Shared → Prop} {s : Shared} (h : wpAny M A t Q E s) (hQ : ∀ a s, Q a s → Q' a s) : wpAny M A t Q' E s := wpAny_mono h hQ fun _ _ x => x
end L2

namespace L2
open PySem PySem.Spec PyProof.Rows
section
variable {X : Cx}

/-! ### names and constants -/
def tVar (i : Nat) : TE := fun σ H Q => ∃ v, σ[i]? = some (some v) ∧ Q v H
def tC (v : V) : TE := fun _ H Q => Q v H
theorem pe_var {i : Nat} {x : Str} {pos : Pos} (hN : X.N[i]? = some x) (hv : Vis X.env.scope x) (hd : (x == ("__debug__" : Str)) = false := by decide) (hcd : (x == ("__classdict__" : Str)) = false := by decide) : PE X (.Name x pos) (tVar i) := by
  intro pins s σ H Q I h
  obtain ⟨v, e, h⟩ := h
  obtain ⟨m, hn, hl⟩ := I.loc
  obtain ⟨u, r, l⟩ := hl i x v hN e hv
  have fin : EP X pins σ Q u s := ⟨v, H, I, r, h⟩
  rcases l with ⟨hk, hm⟩ | ⟨hk, c, hc, hcell⟩
  · exact wpAny_Name (wpAny_loadName_local I.ok.kind hk hn hm fin) hd
  · rcases hk with hk | hk
    · exact wpAny_Name (wpAny_loadName_cell I.ok.kind hk hc hcell fin) hd
    · exact wpAny_Name (wpAny_loadName_free I.ok.kind hk hc hcell fin hcd) hd
theorem pe_int {i j pos} : PE X (.Constant (.int i) j pos) (tC (.int i)) := fun _ _ _ H _ I h => wpAny_Constant_int ⟨.int i, H, I.tok _, ⟨_, rfl⟩, h⟩
theorem pe_bl {b j pos} : PE X (.Constant (.bool b) j pos) (tC (.bl b)) := fun _ _ _ H _ I h => Constant_bool ⟨.bl b, H, I, rfl, h⟩
theorem pe_str {x j pos} : PE X (.Constant (.str x) j pos) (tC (.str x)) := fun _ _ _ H _ I h => Calls.Constant_str ⟨.str x, H, I.tok _, ⟨_, rfl⟩, h⟩

/-- a global name of the def -/
def Gl (X : Cx) (x : Str) : Prop := X.env.kindOf x = some .globalImplicit
theorem ld_glob {E : Value → Shared → Prop} {pins : List (Addr × Obj)} {s : Shared} {σ : St} {H : Hp} {x : Str} {u : Value} {pos : Pos} {Q : Value → Shared → Prop} (I : Inv X pins σ H s) (hg : Gl X x) (hm : X.mg x = some u) (h : Q u s)
    (hd : (x == ("__debug__" : Str)) = false := by decide) : wpAny (model X.prog X.w) X.A (eval (.Name x pos) X.env) Q E s :=
  Calls.Name_function_global I.ok.kind hg (Calls.loadGlobal_global (by rw [I.ok.glob]; exact I.mod.glob.keeps I.bk) hm h) hd
theorem ld_blt {E : Value → Shared → Prop} {pins : List (Addr × Obj)} {s : Shared} {σ : St} {H : Hp} {x : Str} {u : Value} {pos : Pos} {Q : Value → Shared → Prop} (I : Inv X pins σ H s) (hg : Gl X x) (hm : X.mg x = none) (hv : bootBuiltins x = some u) (h : Q u s)
    (hn : x ≠ "__name__" := by decide) (hd : (x == ("__debug__" : Str)) = false := by decide) : wpAny (model X.prog X.w) X.A (eval (.Name x pos) X.env) Q E s := by
  obtain ⟨mb, h1, h2⟩ := I.mod.blt
  exact Calls.Name_function_global I.ok.kind hg (Calls.loadGlobal_builtin (by rw [I.ok.glob]; exact I.mod.glob.keeps I.bk) hm (by rw [I.ok.blt]; exact h1.keeps I.bk) ((h2 x hn).trans hv) h) hd
/-- a module's constant, a class, a function, as a value -/
theorem pe_glob {x : Str} {v : V} {u : Value} {pos : Pos} (hg : Gl X x) (hm : X.mg x = some u) (r : RelV v u) (hd : (x == ("__debug__" : Str)) = false := by decide) : PE X (.Name x pos) (tC v) :=
  fun _ _ _ H _ I h => ld_glob I hg hm ⟨v, H, I, r, h⟩ hd
theorem pe_bltn {x : Str} {v : V} {u : Value} {pos : Pos} (hg : Gl X x) (hm : X.mg x = none) (hv : bootBuiltins x = some u) (r : RelV v u) (hn : x ≠ "__name__" := by decide) (hd : (x == ("__debug__" : Str)) = false := by decide) : PE X (.Name x pos) (tC v) :=
  fun _ _ _ H _ I h => ld_blt I hg hm hv ⟨v, H, I, r, h⟩ hn hd

/-! ### arithmetic -/
variable {a b : Expr} {ta tb : TE} {pos : Pos}
/-! ### comparisons -/
/-- a comparison as a value, as a test -/
def tB (t : TE) : TT := fun σ H Q => t σ H fun x H1 => ∃ c, x = .bl c ∧ Q c H1
/-- an expression whose value is a bool, as a test -/
theorem pt_val {e : Expr} {t : TE} (h : PE X e t) (he : ∀ whole, isTrue e X.env whole = (do let v ← whole; standAt e.pos; holding [v] (truthy v)) := by intro _; rfl) : PT X e (tB t) := by
  intro pins s σ H Q I hw
  refine isTrue_plain (thn (h pins s σ H _ I hw) fun v s1 ⟨x, H1, I1, r1, q1⟩ => ?_) (he _)
  obtain ⟨d, rfl, q⟩ := q1
  cases r1
  exact wpAny_truthy_bool ⟨H1, I1, q⟩

/-! ### and, or, not -/
variable {tA tB' : TT} {rest : List Expr}
def tAnd (t u : TT) : TT := fun σ H Q => t σ H fun c H1 => if c = true then u σ H1 Q else Q false H1
def tOr (t u : TT) : TT := fun σ H Q => t σ H fun c H1 => if c = true then Q true H1 else u σ H1 Q
def tNot (t : TT) : TT := fun σ H Q => t σ H fun c H1 => Q (!c) H1
theorem pw_and1 (ha : PT X a tA) : PW X (.BoolOp .And [a] pos) tA := by
  intro wh pins s σ H Q I h
  refine isTrue_and (thn (ha pins s σ H Q I h) fun c s1 e => ?_)
  cases c with
  | true => exact isTrue_and_nil e
  | false => exact e
theorem pw_or1 (ha : PT X a tA) : PW X (.BoolOp .Or [a] pos) tA := by
  intro wh pins s σ H Q I h
  refine isTrue_or (thn (ha pins s σ H Q I h) fun c s1 e => ?_)
  cases c with
  | false => exact isTrue_or_nil e
  | true => exact e
theorem pw_and (ha : PT X a tA) (hb : PW X (.BoolOp .And (b :: rest) pos) tB') : PW X (.BoolOp .And (a :: b :: rest) pos) (tAnd tA tB') := by
  intro wh pins s σ H Q I h
  refine isTrue_and (thn (ha pins s σ H _ I h) fun c s1 ⟨H1, I1, q1⟩ => ?_)
  cases c with
  | true => exact hb wh pins s1 σ H1 Q I1 q1
  | false => exact ⟨H1, I1, q1⟩
theorem pw_or (ha : PT X a tA) (hb : PW X (.BoolOp .Or (b :: rest) pos) tB') : PW X (.BoolOp .Or (a :: b :: rest) pos) (tOr tA tB') := by
  intro wh pins s σ H Q I h
  refine isTrue_or (thn (ha pins s σ H _ I h) fun c s1 ⟨H1, I1, q1⟩ => ?_)
  cases c with
  | true => exact ⟨H1, I1, q1⟩
  | false => exact hb wh pins s1 σ H1 Q I1 q1
theorem pt_not (ha : PT X a tA) : PT X (.UnaryOp .Not a pos) (tNot tA) := by
  intro pins s σ H Q I h
  exact isTrue_not (ha pins s σ H (fun c H1 => Q (!c) H1) I h)
/-- .. as values (bools) -/
def tAndV (ta tb : TE) : TE := fun σ H Q => ta σ H fun x H1 => ∃ c, x = .bl c ∧ if c = true then tb σ H1 Q else Q (.bl false) H1
def tNotV (ta : TE) : TE := fun σ H Q => ta σ H fun x H1 => ∃ c, x = .bl c ∧ Q (.bl (!c)) H1
theorem pe_one {op} {t : TE} (h : PE X a t) : PE X (.BoolOp op [a] pos) t := fun pins s σ H Q I hw => BoolOp_one (h pins s σ H Q I hw)
theorem pe_and (ha : PE X a ta) (hb : PE X (.BoolOp .And (b :: rest) pos) tb) : PE X (.BoolOp .And (a :: b :: rest) pos) (tAndV ta tb) := by
  intro pins s σ H Q I h
  refine BoolOp_and (thn (ha pins s σ H _ I h) fun v s1 ⟨x, H1, I1, r1, q1⟩ => ?_)
  obtain ⟨c, rfl, q1⟩ := q1
  cases r1
  refine wpAny_truthy_bool ?_
  cases c with
  | true => exact hb pins s1 σ H1 Q I1 q1
  | false => exact ⟨.bl false, H1, I1, rfl, q1⟩
theorem pe_not (ha : PE X a ta) : PE X (.UnaryOp .Not a pos) (tNotV ta) := by
  intro pins s σ H Q I h
  refine UnaryOp_ (thn (ha pins s σ H _ I h) fun v s1 ⟨x, H1, I1, r1, q1⟩ => ?_)
  obtain ⟨c, rfl, q1⟩ := q1
  cases r1
  exact not_of (wpAny_truthy_bool ⟨.bl (!c), H1, I1, rfl, q1⟩)
/-- a if t else b -/
def tIf (t : TT) (ta tb : TE) : TE := fun σ H Q => t σ H fun c H1 => if c = true then ta σ H1 Q else tb σ H1 Q
theorem pe_ifExp {c : Expr} (hc : PT X c tA) (ha : PE X a ta) (hb : PE X b tb) : PE X (.IfExp c a b pos) (tIf tA ta tb) := by
  intro pins s σ H Q I h
  refine wpAny_IfExp (thn (hc pins s σ H _ I h) fun d s1 ⟨H1, I1, q1⟩ => ?_)
  cases d with
  | true => exact ha pins s1 σ H1 Q I1 q1
  | false => exact hb pins s1 σ H1 Q I1 q1
end
end L2

namespace L2
open PySem PySem.Spec PyProof.Rows

/-! ### a list, a tuple that is read: tracked, frozen, or an object of the module -/
def SqL (K : PySem.W.Frag) (H : Hp) (a : Addr) (xs : List V) : Prop :=
  Rd H a (.lst xs) ∨
    ∃ (o : Obj) (its : Array Value) (n : Nat), K.lookup a = some o ∧ o.cls = .type "list" ∧ o.dict = none ∧ o.data = .seq its n ∧ its.size ≤ sizeLine ∧ Vals xs its.toList
def SqT (K : PySem.W.Frag) (H : Hp) (a : Addr) (xs : List V) : Prop :=
  Rd H a (.tup xs) ∨
    ∃ (o : Obj) (its : Array Value) (n : Nat), K.lookup a = some o ∧ o.cls = .type "tuple" ∧ o.data = .seq its n ∧ its.size ≤ sizeLine ∧ Vals xs its.toList
def absV : Value → Option V
  | .none => some .non
  | .bool b => some (.bl b)
  | .int i _ => some (.int i)
  | .str x _ => some (.str x)
  | .bytes b _ => some (.byt b)
  | .float b _ => some (.flt b)
  | .ref a => some (.ref a)
  | .type n => some (.ty n)
  | _ => none
theorem RelV.abs {x : V} {u : Value} (r : RelV x u) : absV u = some x := by
  cases x with
  | non => cases r; rfl
  | bl _ => cases r; rfl
  | int _ => obtain ⟨t, rfl⟩ := r; rfl
  | str _ => obtain ⟨t, rfl⟩ := r; rfl
  | byt _ => obtain ⟨t, rfl⟩ := r; rfl
  | flt _ => obtain ⟨t, rfl⟩ := r; rfl
  | ref _ => cases r; rfl
  | ty _ => cases r; rfl
theorem RelV.inj {x y : V} {u : Value} (r : RelV x u) (q : RelV y u) : x = y := Option.some.inj (r.abs.symm.trans q.abs)
theorem Vals.inj : ∀ {xs ys : List V} {us : List Value}, Vals xs us → Vals ys us → xs = ys
  | _, _, _, .nil, .nil => rfl
  | _, _, _, .cons r t, .cons r' t' => by rw [r.inj r', Vals.inj t t']
section
variable {X : Cx} {pins : List (Addr × Obj)} {σ : St} {H : Hp} {s : Shared} {a : Addr} {xs ys : List V}
theorem SqL.of {K : PySem.W.Frag} (h : H a = some (.lst xs)) : SqL K H a xs := .inl (.inl h)
theorem SqT.of {K : PySem.W.Frag} (h : H a = some (.tup xs)) : SqT K H a xs := .inl (.inl h)
theorem Inv.list (I : Inv X pins σ H s) (h : SqL X.K H a xs) : ∃ its : List Value, Vals xs its ∧ PlainL s.heap a its.toArray ∧ xs.length ≤ sizeLine := by
  rcases h with h | ⟨o, its, n, hk, hc, hd, hs, hz, r⟩
  · obtain ⟨z, its, n, r, e⟩ := h.ok I.hok
    exact ⟨its, r, ⟨_, n, e, rfl, rfl, rfl⟩, z⟩
  · refine ⟨its.toList, r, ⟨o, n, I.kIn a o hk, hc, hd, by simpa using hs⟩, ?_⟩
    have e := r.length
    simp only [Array.length_toList] at e
    omega
theorem Inv.tuple (I : Inv X pins σ H s) (h : SqT X.K H a xs) : ∃ its : List Value, Vals xs its ∧ IsTup s.heap a its.toArray ∧ xs.length ≤ sizeLine := by
  rcases h with h | ⟨o, its, n, hk, hc, hs, hz, r⟩
  · obtain ⟨z, its, r, p⟩ := h.ok I.hok
    exact ⟨its, r, p, z⟩
  · refine ⟨its.toList, r, ⟨o, I.kIn a o hk, hc, n, by simpa using hs⟩, ?_⟩
    have e := r.length
    simp only [Array.length_toList] at e
    omega
theorem Inv.list_inj (I : Inv X pins σ H s) (h : SqL X.K H a xs) (h' : SqL X.K H a ys) : xs = ys := by
  obtain ⟨its, r, ⟨o, n, e, _, _, d⟩, _⟩ := I.list h
  obtain ⟨its', r', ⟨o', n', e', _, _, d'⟩, _⟩ := I.list h'
  rw [e] at e'; cases e'
  rw [d] at d'
  injection d' with d1 _
  have : its = its' := by simpa using congrArg Array.toList d1
  subst this
  exact r.inj r'
theorem Inv.tuple_inj (I : Inv X pins σ H s) (h : SqT X.K H a xs) (h' : SqT X.K H a ys) : xs = ys := by
  obtain ⟨its, r, ⟨o, e, _, n, d⟩, _⟩ := I.tuple h
  obtain ⟨its', r', ⟨o', e', _, n', d'⟩, _⟩ := I.tuple h'
  rw [e] at e'; cases e'
  rw [d] at d'
  injection d' with d1 _
  have : its = its' := by simpa using congrArg Array.toList d1
  subst this
  exact r.inj r'
end

/-! ### another wish about exceptions -/
abbrev Cx.wish (X : Cx) (E : Value → Shared → Prop) : Cx := { X with xe := E }
/-- no exception leaves -/
abbrev Cx.nox (X : Cx) : Cx := X.wish fun _ _ => False
theorem Cx.Ok.wish {X : Cx} (ok : X.Ok) (E : Value → Shared → Prop) : (X.wish E).Ok :=
  ⟨ok.mod, ok.kind, ok.glob, ok.blt, ok.above, ok.inj, ok.has, ok.cab, ok.hd, ok.frames, ok.stk, ok.exf, ok.bs, ok.bsz, ok.noex, ok.exfs, ok.funs, ok.frf⟩
theorem Cx.Ok.unwish {X : Cx} {E : Value → Shared → Prop} (ok : (X.wish E).Ok) : X.Ok :=
  ⟨ok.mod, ok.kind, ok.glob, ok.blt, ok.above, ok.inj, ok.has, ok.cab, ok.hd, ok.frames, ok.stk, ok.exf, ok.bs, ok.bsz, ok.noex, ok.exfs, ok.funs, ok.frf⟩
section
variable {X : Cx} {pins : List (Addr × Obj)} {σ : St} {H : Hp} {s : Shared} {E : Value → Shared → Prop}
theorem Inv.wish (I : Inv X pins σ H s) (E : Value → Shared → Prop) : Inv (X.wish E) pins σ H s := ⟨I.ok.wish E, I.os, I.bare, I.base, I.loc, I.cell, I.free, I.freeC, I.pin, I.hok, I.len⟩
theorem Inv.unwish (I : Inv (X.wish E) pins σ H s) : Inv X pins σ H s := ⟨I.ok.unwish, I.os, I.bare, I.base, I.loc, I.cell, I.free, I.freeC, I.pin, I.hok, I.len⟩
theorem SP.unwish {D : Ends} {f : Flow} {s' : Shared} (h : SP (X.wish E) pins D f s') : SP X pins D f s' := by
  cases f with
  | next => obtain ⟨σ', H', I, q⟩ := h; exact ⟨σ', H', I.unwish, q⟩
  | brk => obtain ⟨σ', H', I, q⟩ := h; exact ⟨σ', H', I.unwish, q⟩
  | cont => obtain ⟨σ', H', I, q⟩ := h; exact ⟨σ', H', I.unwish, q⟩
  | ret u => obtain ⟨v, σ', H', I, r, q⟩ := h; exact ⟨v, σ', H', I.unwish, r, q⟩
theorem PE.nox {e : Expr} {t : TE} (h : PE X.nox e t) : PE X e t := fun pins s σ H Q I hw =>
  wpAny_mono (h pins s σ H Q (I.wish _) hw) (fun _ _ ⟨v, H', I', r, q⟩ => ⟨v, H', I'.unwish, r, q⟩) fun _ _ z => False.elim z
theorem PT.nox {e : Expr} {t : TT} (h : PT X.nox e t) : PT X e t := fun pins s σ H Q I hw =>
  wpAny_mono (h pins s σ H Q (I.wish _) hw) (fun _ _ ⟨H', I', q⟩ => ⟨H', I'.unwish, q⟩) fun _ _ z => False.elim z
theorem PSs.nox {st : List Stmt} {t : TS} (h : PSs X.nox st t) : PSs X st t := fun pins s σ H D I hw =>
  wpAny_mono (h pins s σ H D (I.wish _) hw) (fun _ _ q => q.unwish) fun _ _ z => False.elim z
end

/-! ### blocks and small statements -/
section
variable {X : Cx} {st : Stmt} {rest : List Stmt} {t u : TS} {e : Expr} {te : TE} {pos : Pos}
def tNext : TS := fun D σ H => D.nx σ H
def tSeq (t u : TS) : TS := fun D σ H => t { D with nx := u D } σ H
theorem pss_nil : PSs X [] tNext := fun _ _ σ H _ I h => wpAny_execs_nil ⟨σ, H, I, h⟩
theorem pss_cons (h1 : PS X st t) (h2 : PSs X rest u) : PSs X (st :: rest) (tSeq t u) := by
  intro pins s σ H D I h
  refine wpAny_execs_cons (thn (h1 pins s σ H { D with nx := u D } I h) fun f s1 q => ?_)
  cases f with
  | next =>
    obtain ⟨σ', H', I', q⟩ := q
    exact h2 pins s1 σ' H' D I' q
  | ret v => exact q
  | brk => exact q
  | cont => exact q
theorem pss_one (h1 : PS X st t) : PSs X [st] t := by
  intro pins s σ H D I h
  refine wpAny_execs_cons (thn (h1 pins s σ H D I h) fun f s1 q => ?_)
  cases f with
  | next => exact wpAny_execs_nil q
  | ret v => exact q
  | brk => exact q
  | cont => exact q
/-- in a def's body nothing is shown -/
theorem Inv.quiet {pins : List (Addr × Obj)} {σ : St} {H : Hp} {s : Shared} (I : Inv X pins σ H s) : interactive X.env = false := by simp [interactive, I.ok.kind]
/-- an expression whose value is dropped -/
def tDrop (te : TE) : TS := fun D σ H => te σ H fun _ H1 => D.nx σ H1
theorem ps_expr (he : PE X e te) (hs : swapsWith e none pos.line X.env = pure false := by rfl) : PS X (.Expr e pos) (tDrop te) := by
  intro pins s σ H D I h
  exact wpAny_Expr_any (thn (he pins s σ H _ I h) fun v s1 ⟨x, H1, I1, r1, q1⟩ => ⟨σ, H1, I1, q1⟩) I.quiet hs
def tRet (te : TE) : TS := fun D σ H => te σ H D.rt
theorem ps_ret (he : PE X e te) : PS X (.Return (some e) pos) (tRet te) := by
  intro pins s σ H D I h
  exact wpAny_Return_some (thn (he pins s σ H _ I h) fun v s1 ⟨x, H1, I1, r1, q1⟩ => ⟨x, σ, H1, I1, r1, q1⟩)
def tIfS (c : TT) (t u : TS) : TS := fun D σ H => c σ H fun b H1 => if b = true then t D σ H1 else u D σ H1
theorem ps_if {c : Expr} {a b : List Stmt} {tc : TT} (hc : PT X c tc) (ha : PSs X a t) (hb : PSs X b u) : PS X (.If c a b pos) (tIfS tc t u) := by
  intro pins s σ H D I h
  refine wpAny_If (thn (hc pins s σ H _ I h) fun d s1 ⟨H1, I1, q1⟩ => ?_)
  cases d with
  | true => exact ha pins s1 σ H1 D I1 q1
  | false => exact hb pins s1 σ H1 D I1 q1
/-- code that the proof never comes to -/
def tNever : TS := fun _ _ _ => False
theorem ps_never : PS X st tNever := fun _ _ _ _ _ _ h => h.elim
end

/-! ### targets -/
abbrev TG := V → St → Hp → (St → Hp → Prop) → Prop
def PG (X : Cx) (target : Expr) (t : TG) : Prop :=
  ∀ (pins : List (Addr × Obj)) (s : Shared) (σ : St) (H : Hp) (v : V) (u : Value) (Q : St → Hp → Prop), Inv X pins σ H s → RelV v u → t v σ H Q →
    wpAny (model X.prog X.w) X.A (assign target X.env u) (fun _ s' => ∃ σ' H', Inv X pins σ' H' s' ∧ Q σ' H') X.xe s
/-- o[i] = v, by values -/
abbrev TSet := V → V → V → Hp → (Hp → Prop) → Prop
def PSet (X : Cx) (t : TSet) : Prop :=
  ∀ (pins : List (Addr × Obj)) (s : Shared) (σ : St) (H : Hp) (o i v : V) (ov iv u : Value) (Q : Hp → Prop), Inv X pins σ H s → RelV o ov → RelV i iv → RelV v u → t o i v H Q →
    wpAny (model X.prog X.w) X.A (setItem ov iv u) (fun _ s' => ∃ H', Inv X pins σ H' s' ∧ Q H') X.xe s
section
variable {X : Cx} {pos : Pos}
def gName (i : Nat) : TG := fun v σ H Q => Q (σ.set i (some v)) H
theorem pg_name {i : Nat} {x : Str} (hN : X.N.Nodup) (hi : X.N[i]? = some x) (hx : Loc X.env.scope x) (hf : X.fn x = true ∨ X.env.scope.names.lookup x = some .local := by first | exact .inl rfl | exact .inr rfl | assumption) : PG X (.Name x pos) (gName i) := by
  intro pins s σ H v u Q I r h
  exact wpAny_assign_Name (store_ok I hN hi hx r (fun s' I' => ⟨_, H, I', h⟩) hf)
/-- o[i] = .. -/
def gSub (to ti : TE) (t : TSet) : TG := fun v σ H Q => to σ H fun o H1 => ti σ H1 fun i H2 => t o i v H2 fun H3 => Q σ H3
theorem pg_sub {o i : Expr} {to ti : TE} {t : TSet} (ho : PE X o to) (hi : PE X i ti) (hs : PSet X t)
    (ha : ∀ v, assign (.Subscript o i pos) X.env v = (do
      let ov ← holding [v] (eval o X.env)
      let iv ← holding [v, ov] (eval i X.env)
      standAt pos
      holding [v, ov, iv] (setItem ov iv v)
      release [v, ov, iv] []) := by intro _; rfl) : PG X (.Subscript o i pos) (gSub to ti t) := by
  intro pins s σ H v u Q I r h
  rw [ha]
  refine wpAny_bind (wpAny_holding (thn (ho pins s σ H _ I h) fun ov s1 ⟨x, H1, I1, r1, q1⟩ => ?_))
  refine wpAny_bind (wpAny_holding (thn (hi pins s1 σ H1 _ I1 q1) fun iv s2 ⟨y, H2, I2, r2, q2⟩ => ?_))
  refine wpAny_bind (wpAny_standAt (wpAny_bind (wpAny_holding (thn (hs pins s2 σ H2 x y v ov iv u _ I2 r1 r2 r q2) fun _ s3 ⟨H3, I3, q3⟩ => ?_))))
  exact wpAny_release ⟨σ, H3, I3, q3⟩
/-- target = value -/
def tAsg (te : TE) (g : TG) : TS := fun D σ H => te σ H fun x H1 => g x σ H1 D.nx
theorem ps_asg {tg e : Expr} {te : TE} {g : TG} (he : PE X e te) (hg : PG X tg g) (hs : swapsWithSole [tg] e pos.line X.env = pure false := by rfl) (hw : swappedStores [tg] e X.env = pure none := by rfl)
    (h1 : (assignEach [tg] X.env).map (·.2) = [assign tg X.env] := by rfl) : PS X (.Assign [tg] e pos) (tAsg te g) := by
  intro pins s σ H D I h
  refine wpAny_Assign_stores (thn (he pins s σ H _ I h) fun v s1 ⟨x, H1, I1, r1, q1⟩ => ?_) hs hw
  rw [h1]
  exact thn (hg pins s1 σ H1 x v _ I1 r1 q1) fun _ s2 q => q
/-- name = value -/
theorem ps_set {i : Nat} {x : Str} {e : Expr} {te : TE} {pos' : Pos} (hN : X.N.Nodup) (hi : X.N[i]? = some x) (hx : Loc X.env.scope x) (he : PE X e te) (hs : swapsWith e (some (.Name x pos')) pos.line X.env = pure false := by rfl) (hf : X.fn x = true ∨ X.env.scope.names.lookup x = some .local := by first | exact .inl rfl | exact .inr rfl | assumption) :
    PS X (.Assign [.Name x pos'] e pos) (tAsg te (gName i)) := by
  intro pins s σ H D I h
  refine wpAny_Assign_Name (thn (he pins s σ H _ I h) fun v s1 ⟨y, H1, I1, r1, q1⟩ => ?_) hs
  exact store_ok I1 hN hi hx r1 (fun s2 I2 => ⟨_, H1, I2, q1⟩) hf
end

/-! ### while -/
section
variable {X : Cx} {pos : Pos}
end

/-! ### what a loop or a comprehension walks -/
/-- at turn i: it yields x (the heap may grow), or it stops -/
structure It where
  go : Nat → Hp → Prop
  yld : Nat → Hp → V → Hp → Prop
  stop : Nat → Hp → Prop
/-- the iterator's own objects may turn: they are not the frame's, not pinned, younger than the entry (or a comprehension's own) -/
def FpOk (X : Cx) (pins : List (Addr × Obj)) (H : Hp) (b : Addr) : Prop :=
  H b = none ∧ b ≠ X.env.locals ∧ b ∉ X.fs ∧ (b ∈ X.ex ∨ X.s₀.heap.objs.size ≤ b) ∧ (∀ x c, X.env.cells.lookup x = some c → c ≠ b) ∧ ∀ p ∈ X.pn ++ pins, p.1 ≠ b
theorem Inv.fpOk {X : Cx} {pins : List (Addr × Obj)} {σ : St} {H H' : Hp} {s : Shared} {b : Addr} (I : Inv X pins σ H s) (hb : s.heap.objs.size ≤ b) (hn : H' b = none) : FpOk X pins H' b := by
  refine ⟨hn, Nat.ne_of_gt (Nat.lt_of_lt_of_le I.lt hb), I.nofs hb, .inr (Nat.le_trans I.sz hb), fun x c e z => ?_, fun p hp z => ?_⟩
  · obtain ⟨v, q⟩ := I.cell x c e
    exact absurd (Nat.lt_of_lt_of_le q.lt (by rw [z]; exact hb)) (Nat.lt_irrefl _)
  · exact absurd (Nat.lt_of_lt_of_le (Heap.lt_size (I.pin p hp).1) (by rw [z]; exact hb)) (Nat.lt_irrefl _)
structure Turn (P : Program) (w : World) (K : PySem.W.Frag) (tg : Expr) (J : It) (fp : List Addr) (it : Addr) (tn : Nat → Heap → Prop) : Prop where
  mem : it ∈ fp
  obj : ∀ i h, tn i h → ∀ b ∈ fp, ∃ o, h.get? b = some o ∧ ∀ v, o.data ≠ .cell v
  keep : ∀ i h h', tn i h → (∀ b ∈ fp, ∀ o, h.get? b = some o → h'.get? b = some o) → tn i h'
  item : ∀ (X : Cx), X.prog = P → X.w = w → X.K = K → X.calm = true → ∀ (i : Nat) (pins : List (Addr × Obj)) (s : Shared) (σ : St) (H : Hp) (E : Value → Shared → Prop), Inv X pins σ H s → (∀ b ∈ fp, FpOk X pins H b) → tn i s.heap → J.go i H →
    wpAny (model P w) X.A (pyNext (.ref it)) (fun r s1 => ∃ u, r = some u ∧
      wpAny (model P w) X.A (letOwnedTupleGo tg (.ref it) u) (fun _ s2 => ∃ x H', Inv X pins σ H' s2 ∧ RelV x u ∧ J.yld i H x H' ∧ tn (i + 1) s2.heap ∧ ∀ b ∈ fp, H' b = none) E s1) E s
  done : ∀ (X : Cx), X.prog = P → X.w = w → X.K = K → X.calm = true → ∀ (i : Nat) (pins : List (Addr × Obj)) (s : Shared) (σ : St) (H : Hp) (E : Value → Shared → Prop), Inv X pins σ H s → (∀ b ∈ fp, FpOk X pins H b) → tn i s.heap → J.stop i H →
    wpAny (model P w) X.A (pyNext (.ref it)) (fun r s1 => r = none ∧ Inv X pins σ H s1) E s
  self : ∀ (A : Around) (i : Nat) (s : Shared) (Q : Value → Shared → Prop) (E : Value → Shared → Prop), tn i s.heap → Q (.ref it) s → wpAny (model P w) A (pyIter (.ref it)) Q E s
abbrev TI := St → Hp → (It → Hp → Prop) → Prop
/-- an iterator has come -/
def PIE (X : Cx) (pins : List (Addr × Obj)) (σ : St) (tg : Expr) (R : It → Hp → Prop) (itv : Value) (s2 : Shared) : Prop :=
  ∃ (it : Addr) (fp : List Addr) (tn : Nat → Heap → Prop) (J : It) (H' : Hp), itv = .ref it ∧ Inv X pins σ H' s2 ∧ Turn X.prog X.w X.K tg J fp it tn ∧ tn 0 s2.heap ∧ (∀ b ∈ fp, FpOk X pins H' b) ∧ R J H'
def PI (X : Cx) (tg iter : Expr) (wi : TI) : Prop :=
  ∀ (pins : List (Addr × Obj)) (s : Shared) (σ : St) (H : Hp) (R : It → Hp → Prop), Inv X pins σ H s → wi σ H R →
    wpAny (model X.prog X.w) X.A (eval iter X.env) (fun v s1 => wpAny (model X.prog X.w) X.A (pyIter v) (PIE X pins σ tg R) X.xe s1) X.xe s

/-- the step ahead of the store is nothing for an iterator that keeps no tuple -/
theorem go_of {M : Model} {A : Around} {E : Value → Shared → Prop} {s : Shared} {tg : Expr} {it : Addr} {u : Value} {o : Obj} {n : String} {vs : Array Value} {Q : Unit → Shared → Prop} (ho : s.heap.get? it = some o) (hc : o.cls = .type n) (hd : o.data = .fields vs)
    (hn : ["enumerate", "zip", "dict_itemiterator", "dict_reverseitemiterator", "odict_iterator", "itertools.zip_longest", "itertools.pairwise"].contains n = false) (hQ : Q () s) : wpAny M A (letOwnedTupleGo tg (.ref it) u) Q E s := by
  unfold letOwnedTupleGo
  cases tg <;> first
    | exact wpAny_pure hQ
    | (cases u <;> first
        | exact wpAny_pure hQ
        | (refine wpAny_bind (wpAny_load ho ?_)
           rw [hc, hd]
           show wpAny M A (if (["enumerate", "zip", "dict_itemiterator", "dict_reverseitemiterator", "odict_iterator", "itertools.zip_longest", "itertools.pairwise"].contains n && vs[0]? == some (rawInt _)) = true then _ else _) Q E s
           rw [if_neg (by intro h; rw [hn, Bool.false_and] at h; cases h)]
           exact wpAny_pure hQ))

/-- the list at a, as it stands at each turn (a loop may append to it) -/
def Itl (K : PySem.W.Frag) (a : Addr) : It :=
  ⟨fun i H => ∃ xs x, SqL K H a xs ∧ xs[i]? = some x, fun i H x H' => H' = H ∧ ∀ xs, SqL K H a xs → xs[i]? = some x, fun i H => ∃ xs, SqL K H a xs ∧ xs.length ≤ i⟩
def Itt (K : PySem.W.Frag) (a : Addr) : It :=
  ⟨fun i H => ∃ xs x, SqT K H a xs ∧ xs[i]? = some x, fun i H x H' => H' = H ∧ ∀ xs, SqT K H a xs → xs[i]? = some x, fun i H => ∃ xs, SqT K H a xs ∧ xs.length ≤ i⟩
/-- lo, lo + 1, .. (n of them) -/
def Itr (lo : Int) (n : Nat) : It := ⟨fun i _ => i < n, fun i H x H' => H' = H ∧ x = .int (lo + i), fun i _ => n ≤ i⟩
theorem turn_list {P : Program} {w : World} {K : PySem.W.Frag} {tg : Expr} (a it : Addr) : Turn P w K tg (Itl K a) [it] it (fun i h => h.IsListIter it a i) where
  mem := by simp
  obj := fun i h st b hb => by
    have e : b = it := by simpa using hb
    subst e
    obtain ⟨o, e, c, d⟩ := st
    exact ⟨o, e, fun v z => by rw [d] at z; cases z⟩
  keep := fun i h h' st k => st.at fun o e => k it (by simp) o e
  item := by
    intro X hP hw hK hc i pins s σ H E I hf st hg
    subst hP hw hK
    obtain ⟨xs, x, hq, hx⟩ := hg
    obtain ⟨its, rv, p, hz⟩ := I.list hq
    obtain ⟨u, hu, ru⟩ := rv.get hx
    obtain ⟨f0, f1, f2, f3, f4, f5⟩ := hf it (by simp)
    refine wpAny_pyNext_list_item st p.isList (x := u) (by simpa using hu) fun h' st' sb => ?_
    have I1 : Inv X pins σ H { s with heap := h' } := I.turned (t' := s.toks) (fun b o hb e => (sb.2 b hb).trans e) f0 f1 f3 f4 f5
    obtain ⟨o, e, c, d⟩ := id st'
    exact ⟨u, rfl, go_of (s := { s with heap := h' }) e c d (by decide) ⟨x, H, I1, ru, ⟨rfl, fun ys hy => by rw [I.list_inj hy hq]; exact hx⟩, st', fun b hb => (hf b hb).1⟩⟩
  done := by
    intro X hP hw hK hc i pins s σ H E I hf st hg
    subst hP hw hK
    obtain ⟨xs, hq, hx⟩ := hg
    obtain ⟨its, rv, p, hz⟩ := I.list hq
    obtain ⟨f0, f1, f2, f3, f4, f5⟩ := hf it (by simp)
    have hl := rv.length
    exact wpAny_pyNext_list_end (I.ok.hd hc) st p.isList (by simp; omega) fun h' eb => ⟨rfl, I.turned (t' := s.toks) (fun b o hb e => eb b o hb e) f0 f1 f3 f4 f5⟩
  self := fun _ _ _ _ _ st h => wpAny_pyIter_listiter st h
theorem turn_tuple {P : Program} {w : World} {K : PySem.W.Frag} {tg : Expr} (a it : Addr) : Turn P w K tg (Itt K a) [it] it (fun i h => h.IsTupleIter it a i) where
  mem := by simp
  obj := fun i h st b hb => by
    have e : b = it := by simpa using hb
    subst e
    obtain ⟨o, e, c, d⟩ := st
    exact ⟨o, e, fun v z => by rw [d] at z; cases z⟩
  keep := fun i h h' st k => st.at fun o e => k it (by simp) o e
  item := by
    intro X hP hw hK hc i pins s σ H E I hf st hg
    subst hP hw hK
    obtain ⟨xs, x, hq, hx⟩ := hg
    obtain ⟨its, rv, p, hz⟩ := I.tuple hq
    obtain ⟨u, hu, ru⟩ := rv.get hx
    obtain ⟨f0, f1, f2, f3, f4, f5⟩ := hf it (by simp)
    refine wpAny_pyNext_tuple_item st (show s.heap.IsTuple a its.toArray from p) (x := u) (by simpa using hu) fun h' st' sb => ?_
    have I1 : Inv X pins σ H { s with heap := h' } := I.turned (t' := s.toks) (fun b o hb e => (sb.2 b hb).trans e) f0 f1 f3 f4 f5
    obtain ⟨o, e, c, d⟩ := id st'
    exact ⟨u, rfl, go_of (s := { s with heap := h' }) e c d (by decide) ⟨x, H, I1, ru, ⟨rfl, fun ys hy => by rw [I.tuple_inj hy hq]; exact hx⟩, st', fun b hb => (hf b hb).1⟩⟩
  done := by
    intro X hP hw hK hc i pins s σ H E I hf st hg
    subst hP hw hK
    obtain ⟨xs, hq, hx⟩ := hg
    obtain ⟨its, rv, p, hz⟩ := I.tuple hq
    obtain ⟨f0, f1, f2, f3, f4, f5⟩ := hf it (by simp)
    have hl := rv.length
    exact wpAny_pyNext_tuple_end (I.ok.hd hc) st (show s.heap.IsTuple a its.toArray from p) (by simp; omega) fun h' eb => ⟨rfl, I.turned (t' := s.toks) (fun b o hb e => eb b o hb e) f0 f1 f3 f4 f5⟩
  self := fun _ _ _ _ _ st h => wpAny_pyIter_tupleiter st h
theorem turn_range {P : Program} {w : World} {K : PySem.W.Frag} {tg : Expr} (it : Addr) (lo : Int) (n : Nat) : Turn P w K tg (Itr lo n) [it] it (fun i h => IsRangeIter h it (lo + (i : Nat) * 1) ((n : Int) - (i : Nat)) 1) where
  mem := by simp
  obj := fun i h st b hb => by
    have e : b = it := by simpa using hb
    subst e
    exact ⟨_, st, fun v z => by
      have z' : Data.fields _ = Data.cell v := z
      cases z'⟩
  keep := fun i h h' st k => k it (by simp) _ st
  item := by
    intro X hP hw hK hc i pins s σ H E I hf st hg
    subst hP hw hK
    obtain ⟨f0, f1, f2, f3, f4, f5⟩ := hf it (by simp)
    have W := Walks.range (prog := X.prog) (w := X.w) (I.ok.hd hc) it lo 1 n
    refine W.item i s _ _ hg st fun v h' tk hv st' kk => ?_
    obtain ⟨t, rfl⟩ := hv
    have I1 : Inv X pins σ H { s with heap := h', toks := tk } := I.turned (fun b o hb e => kk b o (by simpa using hb) e) f0 f1 f3 f4 f5
    refine ⟨_, rfl, go_of (s := { s with heap := h', toks := tk }) (n := "range_iterator") st' rfl rfl (by decide) ⟨.int (lo + i), H, I1, ⟨t, ?_⟩, ⟨rfl, rfl⟩, st', fun b hb => (hf b hb).1⟩⟩
    rw [Int.mul_one]
  done := by
    intro X hP hw hK hc i pins s σ H E I hf st hg
    subst hP hw hK
    obtain ⟨f0, f1, f2, f3, f4, f5⟩ := hf it (by simp)
    exact wpAny_pyNext_range_end (I.ok.hd hc) st (by have : n ≤ i := hg; omega) fun h' eb => ⟨rfl, I.turned (t' := s.toks) (fun b o hb e => eb b o hb e) f0 f1 f3 f4 f5⟩
  self := fun _ _ _ _ _ st h => wpAny_pyIter_rangeiter st h
end L2

namespace L2
open PySem PySem.Spec PyProof.Rows
section
variable {X : Cx} {tg : Expr}
def iList (K : PySem.W.Frag) (tl : TE) : TI := fun σ H R => tl σ H fun x H1 => ∃ a, x = .ref a ∧ (∃ xs, SqL K H1 a xs) ∧ R (Itl K a) H1
def iTup (K : PySem.W.Frag) (tl : TE) : TI := fun σ H R => tl σ H fun x H1 => ∃ a, x = .ref a ∧ (∃ xs, SqT K H1 a xs) ∧ R (Itt K a) H1
theorem pi_list {l : Expr} {tl : TE} (hl : PE X l tl) : PI X tg l (iList X.K tl) := by
  intro pins s σ H R I h
  refine thn (hl pins s σ H _ I h) fun v s1 ⟨x, H1, I1, r1, q1⟩ => ?_
  obtain ⟨a, e, ⟨xs, hq⟩, q⟩ := q1
  subst e
  cases r1
  obtain ⟨its, rv, p, hz⟩ := I1.list hq
  refine wpAny_pyIter_list p.isList ?_
  refine ⟨s1.heap.objs.size, [s1.heap.objs.size], _, _, H1, rfl, I1.kept (t' := s1.toks) fun b o e => Heap.get?_push_of_some _ e, turn_list a _, ⟨_, Heap.get?_push_size _ rfl, rfl, rfl⟩, fun b hb => ?_, q⟩
  have e : b = s1.heap.objs.size := by simpa using hb
  subst e
  exact I1.fpOk (Nat.le_refl _) (I1.hok.fresh (Nat.le_refl _))
theorem pi_tup {l : Expr} {tl : TE} (hl : PE X l tl) : PI X tg l (iTup X.K tl) := by
  intro pins s σ H R I h
  refine thn (hl pins s σ H _ I h) fun v s1 ⟨x, H1, I1, r1, q1⟩ => ?_
  obtain ⟨a, e, ⟨xs, hq⟩, q⟩ := q1
  subst e
  cases r1
  obtain ⟨its, rv, p, hz⟩ := I1.tuple hq
  refine wpAny_pyIter_tuple (show s1.heap.IsTuple a its.toArray from p) ?_
  refine ⟨s1.heap.objs.size, [s1.heap.objs.size], _, _, H1, rfl, I1.kept (t' := s1.toks) fun b o e => Heap.get?_push_of_some _ e, turn_tuple a _, ⟨_, Heap.get?_push_size _ rfl, rfl, rfl⟩, fun b hb => ?_, q⟩
  have e : b = s1.heap.objs.size := by simpa using hb
  subst e
  exact I1.fpOk (Nat.le_refl _) (I1.hok.fresh (Nat.le_refl _))
/-- a range object just made, walked -/
theorem range_it {pins : List (Addr × Obj)} {σ : St} {H : Hp} {s : Shared} {R : It → Hp → Prop} {E : Value → Shared → Prop} {lo hi : Int} {t u v : Tok} {tk : Nat} (I : Inv X pins σ H s) (h1 : -(2 ^ 62) ≤ lo) (h2 : lo < 2 ^ 62) (h3 : -(2 ^ 62) ≤ hi) (h4 : hi < 2 ^ 62)
    (q : R (Itr lo (hi - lo).toNat) H) : wpAny (model X.prog X.w) X.A (pyIter (.ref s.heap.objs.size)) (PIE X pins σ tg R) E { s with heap := s.heap.push { cls := .type "range", data := .fields #[.int lo t, .int hi u, .int 1 v] }, toks := tk } := by
  refine wpAny_pyIter_range (IsRange.new ..) (small_one h1 h2 h3 h4) ?_
  have I1 : Inv X pins σ H { s with heap := s.heap.push { cls := .type "range", data := .fields #[.int lo t, .int hi u, .int 1 v] }, toks := tk } := I.kept fun b o e => Heap.get?_push_of_some _ e
  refine ⟨(s.heap.push { cls := .type "range", data := .fields #[.int lo t, .int hi u, .int 1 v] }).objs.size, [(s.heap.push { cls := .type "range", data := .fields #[.int lo t, .int hi u, .int 1 v] }).objs.size], _, _, H, rfl,
    I1.kept (t' := tk) fun b o e => Heap.get?_push_of_some _ e, turn_range _ lo (hi - lo).toNat, ?_, fun b hb => ?_, q⟩
  · have e1 : lo + ((0 : Nat) : Int) * 1 = lo := by simp
    have e2 : (((hi - lo).toNat : Nat) : Int) - ((0 : Nat) : Int) = Builtin.Range.rangeSize lo hi 1 := by rw [rangeSize_one]; split <;> omega
    show IsRangeIter _ _ (lo + ((0 : Nat) : Int) * 1) ((((hi - lo).toNat : Nat) : Int) - ((0 : Nat) : Int)) 1
    rw [e1, e2]
    exact Heap.get?_push_size _ rfl
  · have e : b = (s.heap.push { cls := .type "range", data := .fields #[.int lo t, .int hi u, .int 1 v] }).objs.size := by simpa using hb
    subst e
    exact I1.fpOk (Nat.le_refl _) (I1.hok.fresh (Nat.le_refl _))
def iRng1 (ta : TA) : TI := fun σ H R => ta σ H fun vs H1 => ∃ j : Int, vs = [.int j] ∧ -(2 ^ 62) ≤ j ∧ j < 2 ^ 62 ∧ R (Itr 0 j.toNat) H1
theorem pi_range1 {a : Expr} {ta : TA} {p pos : Pos} (hg : Gl X "range") (hm : X.mg "range" = none) (ha : PA X [a] ta) (hs : starEach [a] X.env = [(false, eval a X.env)] := by rfl) : PI X tg (.Call (.Name "range" p) [a] [] pos) (iRng1 ta) := by
  intro pins s σ H R I h
  refine Call_ (ld_blt I hg hm boot_range (PyProof.Rows.callWith_type1 (thn (ha pos pins s σ H _ I h) fun us s1 ⟨vs, H1, I1, r1, q1⟩ => ?_) hs rfl))
  obtain ⟨j, e, q1, q2, q⟩ := q1
  subst e
  cases r1 with
  | cons r rr =>
    cases rr
    obtain ⟨t, rfl⟩ := r
    exact call_range_1 (range_it I1 (by omega) (by omega) q1 q2 (by simpa using q))
/-! ### for -/
/-- W: the invariant by the turn and a measure; N: what the body is to reach -/
def tFor (wi : TI) (g : TG) (tb : TS) : TS := fun D σ H => wi σ H fun J H1 => ∃ W : Nat → Nat → St → Hp → Prop, (∃ m, W 0 m σ H1) ∧ ∀ i m σ H, W i m σ H →
  (J.stop i H ∧ D.nx σ H) ∨ (J.go i H ∧ ∃ N : St → Hp → Prop, (∀ σ' H', N σ' H' → ∃ m', m' < m ∧ W (i + 1) m' σ' H') ∧ ∀ x H', J.yld i H x H' → g x σ H' fun σ2 H2 => tb { D with nx := N, ct := N, bk := D.nx } σ2 H2)
/-- the records at fp as they stand -/
def pinsAt (fp : List Addr) (h : Heap) : List (Addr × Obj) := fp.filterMap fun b => (h.get? b).map fun o => (b, o)
theorem mem_pinsAt {fp : List Addr} {h : Heap} {b : Addr} {o : Obj} (hb : b ∈ fp) (e : h.get? b = some o) : (b, o) ∈ pinsAt fp h := List.mem_filterMap.mpr ⟨b, hb, by rw [e]; rfl⟩
theorem of_pinsAt {fp : List Addr} {h : Heap} {p : Addr × Obj} (hp : p ∈ pinsAt fp h) : p.1 ∈ fp ∧ h.get? p.1 = some p.2 := by
  obtain ⟨b, hb, e⟩ := List.mem_filterMap.mp hp
  cases q : h.get? b with
  | none => rw [q] at e; cases e
  | some o =>
    rw [q] at e
    have e' : (b, o) = p := Option.some.inj e
    subst e'
    exact ⟨hb, q⟩
theorem Inv.pinned {pins : List (Addr × Obj)} {σ : St} {H : Hp} {s : Shared} {fp : List Addr} (I : Inv X pins σ H s) (hf : ∀ b ∈ fp, FpOk X pins H b) (ho : ∀ b ∈ fp, ∃ o, s.heap.get? b = some o ∧ ∀ v, o.data ≠ .cell v) : Inv X (pins ++ pinsAt fp s.heap) σ H s :=
  I.pins_of fun p hp => (List.mem_append.mp hp).elim (fun z => I.pin p (List.mem_append_right _ z)) fun z => by
    obtain ⟨hb, e⟩ := of_pinsAt z
    obtain ⟨f0, f1, f2, _⟩ := hf p.1 hb
    obtain ⟨o, e', d⟩ := ho p.1 hb
    rw [e] at e'; cases e'
    exact ⟨e, f0, f1, f2, d⟩
theorem Inv.unpinned {pins pl : List (Addr × Obj)} {σ : St} {H : Hp} {s : Shared} (I : Inv X (pins ++ pl) σ H s) : Inv X pins σ H s := I.pins_of fun p hp => I.pin p (List.mem_append_right _ (List.mem_append_left _ hp))
theorem ps_for {iter : Expr} {body : List Stmt} {wi : TI} {g : TG} {tb : TS} {pos : Pos} (hp : PassesOwn (model X.prog X.w) X.A X.env X.xe) (hc : X.calm = true) (hi : PI X tg iter wi) (hg : PG X tg g) (hb : PSs X body tb)
    (hs : ∀ x, foldedSetIterable iter X.env x = pure x := by intro _; rfl) : PS X (.For tg iter body [] pos) (tFor wi g tb) := by
  intro pins s σ H D I h
  refine wpAny_For (thn (hi pins s σ H _ I h) fun v s1 h1 => thn h1 fun itv s2 h2 => ?_) hs
  obtain ⟨it, fp, tn, J, H2, e, I2, T, st2, f2, W, ⟨m0, w0⟩, turn⟩ := h2
  subst e
  -- what stays true of the iterator's objects through the loop
  have stat : ∀ {H' : Hp}, (∀ b ∈ fp, H' b = none) → ∀ b ∈ fp, FpOk X pins H' b := fun hn b hb => ⟨hn b hb, (f2 b hb).2⟩
  refine codeAny_forLoop_any (fun n s' => ∃ i σ' H', Inv X pins σ' H' s' ∧ tn i s'.heap ∧ (∀ b ∈ fp, H' b = none) ∧ W i n σ' H') ?_ m0 ⟨0, σ, H2, I2, st2, fun b hb => (f2 b hb).1, w0⟩
  rintro n s3 ⟨i, σ3, H3, I3, st3, fr3, w3⟩
  rcases turn i n σ3 H3 w3 with ⟨stop, qn⟩ | ⟨go, N, hN, step⟩
  · refine wpAny_passesOwn hp (thn (T.done X rfl rfl rfl hc i pins s3 σ3 H3 X.xe I3 (stat fr3) st3 stop) fun r s4 ⟨hr, I4⟩ => ?_)
    subst hr
    exact wpAny_execs_nil ⟨σ3, H3, I4, qn⟩
  · refine wpAny_passesOwn hp (thn (T.item X rfl rfl rfl hc i pins s3 σ3 H3 X.xe I3 (stat fr3) st3 go) fun r s4 ⟨u, hr, h4⟩ => ?_)
    subst hr
    refine wpAny_passesOwn hp (thn h4 fun _ s5 ⟨x, H5, I5, r5, y5, st5, fr5⟩ => ?_)
    have I5' := I5.pinned (stat fr5) (T.obj _ _ st5)
    refine wpAny_passesOwn hp (thn (hg _ s5 σ3 H5 x u _ I5' r5 (step x H5 y5)) fun _ s6 ⟨σ6, H6, I6, q6⟩ => ?_)
    refine wpAny_passesOwn hp (thn (hb _ s6 σ6 H6 _ I6 q6) fun f s7 q7 => ?_)
    have again : ∀ {σ7 : St} {H7 : Hp}, Inv X (pins ++ pinsAt fp s5.heap) σ7 H7 s7 → N σ7 H7 → ∃ m, m < n ∧ ∃ i σ' H', Inv X pins σ' H' s7 ∧ tn i s7.heap ∧ (∀ b ∈ fp, H' b = none) ∧ W i m σ' H' := fun {σ7 H7} I7 n7 => by
      obtain ⟨m', hm, w7⟩ := hN σ7 H7 n7
      refine ⟨m', hm, i + 1, σ7, H7, I7.unpinned, T.keep _ _ _ st5 fun b hb o e => (I7.pin (b, o) (List.mem_append_right _ (List.mem_append_right _ (mem_pinsAt hb e)))).1, fun b hb => ?_, w7⟩
      obtain ⟨o, e, d⟩ := T.obj _ _ st5 b hb
      exact (I7.pin (b, o) (List.mem_append_right _ (List.mem_append_right _ (mem_pinsAt hb e)))).2.1
    cases f with
    | next => obtain ⟨σ7, H7, I7, n7⟩ := q7; exact again I7 n7
    | cont => obtain ⟨σ7, H7, I7, n7⟩ := q7; exact again I7 n7
    | brk => obtain ⟨σ7, H7, I7, q7⟩ := q7; exact ⟨σ7, H7, I7.unpinned, q7⟩
    | ret v => obtain ⟨x7, σ7, H7, I7, r7, q7⟩ := q7; exact ⟨x7, σ7, H7, I7.unpinned, r7, q7⟩
end

/-! ### the forms one uses -/
theorem for_tup {K : PySem.W.Frag} {a : Addr} {xs : List V} {g : TG} {tb : TS} {D : Ends} {σ : St} {H : Hp} (Pv : Nat → St → Hp → Prop) (h0 : Pv 0 σ H) (hl : ∀ i σ H, i ≤ xs.length → Pv i σ H → SqT K H a xs)
    (hs : ∀ i x σ H, xs[i]? = some x → Pv i σ H → g x σ H fun σ2 H2 => tb { D with nx := Pv (i + 1), ct := Pv (i + 1), bk := D.nx } σ2 H2) (hd : ∀ σ H, Pv xs.length σ H → D.nx σ H) :
    ∃ W : Nat → Nat → St → Hp → Prop, (∃ m, W 0 m σ H) ∧ ∀ i m σ H, W i m σ H →
      ((Itt K a).stop i H ∧ D.nx σ H) ∨ ((Itt K a).go i H ∧ ∃ N : St → Hp → Prop, (∀ σ' H', N σ' H' → ∃ m', m' < m ∧ W (i + 1) m' σ' H') ∧ ∀ x H', (Itt K a).yld i H x H' → g x σ H' fun σ2 H2 => tb { D with nx := N, ct := N, bk := D.nx } σ2 H2) := by
  refine ⟨fun i m σ H => m = xs.length - i ∧ i ≤ xs.length ∧ Pv i σ H, ⟨xs.length, by simp, Nat.zero_le _, h0⟩, ?_⟩
  rintro i m σ H ⟨rfl, hi, p⟩
  have q := hl i σ H hi p
  by_cases hlt : i < xs.length
  · refine .inr ⟨⟨xs, xs[i], q, by simp [hlt]⟩, Pv (i + 1), fun σ' H' p' => ⟨xs.length - (i + 1), by omega, rfl, hlt, p'⟩, fun x H' y => ?_⟩
    obtain ⟨e, y⟩ := y
    subst e
    exact hs i x σ _ (y xs q) p
  · have e : i = xs.length := by omega
    subst e
    exact .inl ⟨⟨xs, q, Nat.le_refl _⟩, hd σ H p⟩
theorem for_range {lo : Int} {n : Nat} {g : TG} {tb : TS} {D : Ends} {σ : St} {H : Hp} (Pv : Nat → St → Hp → Prop) (h0 : Pv 0 σ H)
    (hs : ∀ i σ H, i < n → Pv i σ H → g (.int (lo + i)) σ H fun σ2 H2 => tb { D with nx := Pv (i + 1), ct := Pv (i + 1), bk := D.nx } σ2 H2) (hd : ∀ σ H, Pv n σ H → D.nx σ H) :
    ∃ W : Nat → Nat → St → Hp → Prop, (∃ m, W 0 m σ H) ∧ ∀ i m σ H, W i m σ H →
      ((Itr lo n).stop i H ∧ D.nx σ H) ∨ ((Itr lo n).go i H ∧ ∃ N : St → Hp → Prop, (∀ σ' H', N σ' H' → ∃ m', m' < m ∧ W (i + 1) m' σ' H') ∧ ∀ x H', (Itr lo n).yld i H x H' → g x σ H' fun σ2 H2 => tb { D with nx := N, ct := N, bk := D.nx } σ2 H2) := by
  refine ⟨fun i m σ H => m = n - i ∧ i ≤ n ∧ Pv i σ H, ⟨n, by simp, Nat.zero_le _, h0⟩, ?_⟩
  rintro i m σ H ⟨rfl, hi, p⟩
  by_cases hlt : i < n
  · refine .inr ⟨hlt, Pv (i + 1), fun σ' H' p' => ⟨n - (i + 1), by omega, rfl, hlt, p'⟩, fun x H' y => ?_⟩
    obtain ⟨e, y⟩ := y
    subst e y
    exact hs i σ _ hlt p
  · have e : i = n := by omega
    subst e
    exact .inl ⟨Nat.le_refl _, hd σ H p⟩
end L2

namespace L2
open PySem PySem.Spec PyProof.Rows

abbrev R2 := V → V → Hp → VK → Prop
/-- a two-place operation on values: f is binaryOp op, inplaceOp op or compareOp op -/
def OpR (X : Cx) (f : Value → Value → Sem Value) (r : R2) : Prop :=
  ∀ (pins : List (Addr × Obj)) (s : Shared) (σ : St) (H : Hp) (x y : V) (v u : Value) (Q : VK), Inv X pins σ H s → RelV x v → RelV y u → r x y H Q →
    wpAny (model X.prog X.w) X.A (f v u) (EP X pins σ Q) X.xe s
/-- a call of a value that is known (a builtin, a type) with values -/
def CallR (X : Cx) (f : Value) (r : List V → Hp → VK → Prop) : Prop :=
  ∀ (pins : List (Addr × Obj)) (s : Shared) (σ : St) (H : Hp) (xs : List V) (us : List Value) (Q : VK), Inv X pins σ H s → Vals xs us → r xs H Q →
    wpAny (model X.prog X.w) X.A (call f us) (EP X pins σ Q) X.xe s
def tOp (r : R2) (ta tb : TE) : TE := fun σ H Q => ta σ H fun x H1 => tb σ H1 fun y H2 => r x y H2 Q
/-- ints in, under C, and a value out -/
def rI (C : Int → Int → Prop) (g : Int → Int → V) : R2 := fun x y H Q => ∃ i j, x = .int i ∧ y = .int j ∧ C i j ∧ Q (g i j) H
def rI0 (g : Int → Int → V) : R2 := fun x y H Q => ∃ i j, x = .int i ∧ y = .int j ∧ Q (g i j) H
section
variable {X : Cx} {a b c : Expr} {ta tb tc : TE} {pos : Pos}

theorem binT (ha : PE X a ta) (hb : PE X b tb) {pins : List (Addr × Obj)} {s : Shared} {σ : St} {H : Hp} {R : V → V → Hp → Prop} (I : Inv X pins σ H s)
    (h : ta σ H fun x H1 => tb σ H1 fun y H2 => R x y H2) {Q : Value → Shared → Prop} {f : Value → Value → Sem Value}
    (hf : ∀ v u s2 x y H2, Inv X pins σ H2 s2 → RelV x v → RelV y u → R x y H2 → wpAny (model X.prog X.w) X.A (f v u) Q X.xe s2) :
    wpAny (model X.prog X.w) X.A (eval a X.env) (fun v s₁ => wpAny (model X.prog X.w) X.A (eval b X.env) (fun u s₂ => wpAny (model X.prog X.w) X.A (f v u) Q X.xe s₂) X.xe s₁) X.xe s := by
  refine thn (ha pins s σ H _ I h) fun v s1 ⟨x, H1, I1, r1, q1⟩ => ?_
  refine thn (hb pins s1 σ H1 _ I1 q1) fun u s2 ⟨y, H2, I2, r2, q2⟩ => ?_
  exact hf v u s2 x y H2 I2 r1 r2 q2

theorem pe_op {op : Operator} {r : R2} (ho : OpR X (binaryOp op) r) (ha : PE X a ta) (hb : PE X b tb) : PE X (.BinOp a op b pos) (tOp r ta tb) := by
  intro pins s σ H Q I h
  exact wpAny_BinOp (binT ha hb I h fun v u s2 x y H2 I2 rx ry q => ho pins s2 σ H2 x y v u Q I2 rx ry q)
/-! ### ints -/
theorem opI {f : Value → Value → Sem Value} {C : Int → Int → Prop} {g : Int → Int → Int}
    (rule : ∀ (i j : Int) (t u : Tok) (s : Shared) (Q : Value → Shared → Prop) (E : Value → Shared → Prop), C i j → Q (.int (g i j) s.toks) { s with toks := s.toks + 1 } → wpAny (model X.prog X.w) X.A (f (.int i t) (.int j u)) Q E s) :
    OpR X f (rI C fun i j => .int (g i j)) := by
  intro pins s σ H x y v u Q I rx ry h
  obtain ⟨i, j, rfl, rfl, hc, q⟩ := h
  obtain ⟨t, rfl⟩ := rx
  obtain ⟨t', rfl⟩ := ry
  exact rule i j t t' s _ _ hc ⟨.int (g i j), H, I.tok _, ⟨_, rfl⟩, q⟩
theorem opI0 {f : Value → Value → Sem Value} {g : Int → Int → Int}
    (rule : ∀ (i j : Int) (t u : Tok) (s : Shared) (Q : Value → Shared → Prop) (E : Value → Shared → Prop), Q (.int (g i j) s.toks) { s with toks := s.toks + 1 } → wpAny (model X.prog X.w) X.A (f (.int i t) (.int j u)) Q E s) :
    OpR X f (rI0 fun i j => .int (g i j)) := by
  intro pins s σ H x y v u Q I rx ry h
  obtain ⟨i, j, rfl, rfl, q⟩ := h
  obtain ⟨t, rfl⟩ := rx
  obtain ⟨t', rfl⟩ := ry
  exact rule i j t t' s _ _ ⟨.int (g i j), H, I.tok _, ⟨_, rfl⟩, q⟩
theorem opB0 {f : Value → Value → Sem Value} {g : Int → Int → Bool}
    (rule : ∀ (i j : Int) (t u : Tok) (s : Shared) (Q : Value → Shared → Prop) (E : Value → Shared → Prop), Q (.bool (g i j)) s → wpAny (model X.prog X.w) X.A (f (.int i t) (.int j u)) Q E s) :
    OpR X f (rI0 fun i j => .bl (g i j)) := by
  intro pins s σ H x y v u Q I rx ry h
  obtain ⟨i, j, rfl, rfl, q⟩ := h
  obtain ⟨t, rfl⟩ := rx
  obtain ⟨t', rfl⟩ := ry
  exact rule i j t t' s _ _ ⟨.bl (g i j), H, I, rfl, q⟩

def CDiv (i j : Int) : Prop := 0 < j ∧ j < 1073741824
def CPow (i j : Int) : Prop := 0 ≤ j ∧ j ≤ 1000000 ∧ i.natAbs < 2 ^ 64
def CMul (i j : Int) : Prop := (-(2 ^ 64) < i ∧ i < 2 ^ 64) ∨ (-(2 ^ 64) < j ∧ j < 2 ^ 64)
theorem CMul.ok {i j : Int} (h : CMul i j) : IntMulOk i j := by
  rcases h with ⟨h1, h2⟩ | ⟨h1, h2⟩
  · exact .of_left (intBits_le_64 h1 h2)
  · exact .of_right (intBits_le_64 h1 h2)
theorem op_add : OpR X (binaryOp .Add) (rI0 fun i j => .int (i + j)) := opI0 fun _ _ _ _ _ _ _ q => add_int q
theorem op_mul : OpR X (binaryOp .Mult) (rI CMul fun i j => .int (i * j)) := opI fun _ _ _ _ _ _ _ hc q => mul_int q hc.ok
/-- // by a positive divisor -/
theorem op_fdiv : OpR X (binaryOp .FloorDiv) (rI CDiv fun i j => .int (i / j)) := opI fun i j _ _ _ _ _ hc q => by
  have h1 : (0 : Int) < j := hc.1
  have h2 : j < 1073741824 := hc.2
  exact floordiv_int (by omega) (by rw [Int.fdiv_eq_ediv_of_nonneg i (by omega)]; exact q) (.inl (PyProof.noPylong_small (by omega)))
/-- % by a positive divisor of any size -/
theorem op_mod : OpR X (binaryOp .Mod) (rI (fun _ j => 0 < j) fun i j => .int (i % j)) := opI fun i j _ _ _ _ _ hc q => by
  have h1 : (0 : Int) < j := hc
  exact mod_int' (by omega) (by rw [Int.fmod_eq_emod_of_nonneg i (by omega)]; exact q)
theorem op_pow : OpR X (binaryOp .Pow) (rI CPow fun i j => .int (i ^ j.toNat)) := opI fun _ _ _ _ _ _ _ hc q => pow_int_small hc.1 hc.2.1 hc.2.2 q
/-! ### bools among ints: n += (a < b) -/
end

/-! ### comparisons -/
/-- the scalars that == tells apart as data does -/
def scal : V → V → Bool
  | .non, .non => true | .non, .int _ => true | .int _, .non => true | .non, .bl _ => true | .bl _, .non => true | .non, .str _ => true | .str _, .non => true
  | .int _, .int _ => true | .bl _, .bl _ => true | .str _, .str _ => true | .byt _, .byt _ => true
  | .int _, .str _ => true | .str _, .int _ => true | .bl _, .str _ => true | .str _, .bl _ => true
  | _, _ => false
def rEq : R2 := fun x y H Q => scal x y = true ∧ Q (.bl (decide (x = y))) H
def rNe : R2 := fun x y H Q => scal x y = true ∧ Q (.bl (!decide (x = y))) H

theorem dec_int {i j : Int} : decide (V.int i = V.int j) = (i == j) := by
  rw [Bool.eq_iff_iff]
  simp
theorem dec_bl {i j : Bool} : decide (V.bl i = V.bl j) = (i == j) := by
  rw [Bool.eq_iff_iff]
  simp
theorem dec_str {i j : Str} : decide (V.str i = V.str j) = (i == j) := by
  rw [Bool.eq_iff_iff]
  simp
theorem dec_byt {i j : Array UInt8} : decide (V.byt i = V.byt j) = (i.toList == j.toList) := by
  rw [Bool.eq_iff_iff]
  cases i
  cases j
  simp

section
variable {X : Cx} {a b c : Expr} {ta tb tc : TE} {pos : Pos}
theorem fin_bl {pins : List (Addr × Obj)} {σ : St} {H : Hp} {s : Shared} {Q : VK} {k k' : Bool} (I : Inv X pins σ H s) (q : Q (.bl k) H) (e : k = k') : EP X pins σ Q (.bool k') s := by
  subst e
  exact ⟨.bl k, H, I, rfl, q⟩
theorem op_eq : OpR X (compareOp .Eq) rEq := by
  intro pins s σ H x y v u Q I rx ry h
  obtain ⟨hs, q⟩ := h
  cases x with
  | non =>
    cases rx
    cases y with
    | non => cases ry; exact PySem.EqNone.eq_none_none (fin_bl I q (by simp))
    | bl j => cases ry; exact PySem.EqNone.eq_none_bool (fin_bl I q (by simp))
    | int j => obtain ⟨t', rfl⟩ := ry; exact PySem.EqNone.eq_none_int (fin_bl I q (by simp))
    | str j => obtain ⟨t', rfl⟩ := ry; exact PySem.EqNone.eq_none_str (fin_bl I q (by simp))
    | _ => exact absurd (show false = true from hs) Bool.false_ne_true
  | bl i =>
    cases rx
    cases y with
    | non => cases ry; exact PySem.EqNone.eq_bool_none (fin_bl I q (by simp))
    | bl j => cases ry; exact eq_bool (fin_bl I q dec_bl)
    | str j => obtain ⟨t', rfl⟩ := ry; exact PySem.EqMixed.eq_bool_str (fin_bl I q (by simp))
    | _ => exact absurd (show false = true from hs) Bool.false_ne_true
  | int i =>
    obtain ⟨t, rfl⟩ := rx
    cases y with
    | non => cases ry; exact PySem.EqNone.eq_int_none (fin_bl I q (by simp))
    | int j => obtain ⟨t', rfl⟩ := ry; exact eq_int (fin_bl I q dec_int)
    | str j => obtain ⟨t', rfl⟩ := ry; exact PySem.EqMixed.eq_int_str (fin_bl I q (by simp))
    | _ => exact absurd (show false = true from hs) Bool.false_ne_true
  | str i =>
    obtain ⟨t, rfl⟩ := rx
    cases y with
    | non => cases ry; exact PySem.EqNone.eq_str_none (fin_bl I q (by simp))
    | bl j => cases ry; exact PySem.EqMixed.eq_str_bool (fin_bl I q (by simp))
    | int j => obtain ⟨t', rfl⟩ := ry; exact PySem.EqMixed.eq_str_int (fin_bl I q (by simp))
    | str j => obtain ⟨t', rfl⟩ := ry; exact eq_str (fin_bl I q dec_str)
    | _ => exact absurd (show false = true from hs) Bool.false_ne_true
  | byt i =>
    obtain ⟨t, rfl⟩ := rx
    cases y with
    | byt j => obtain ⟨t', rfl⟩ := ry; exact PySem.W.eq_bytes (fin_bl I q dec_byt)
    | _ => exact absurd (show false = true from hs) Bool.false_ne_true
  | _ => cases y <;> exact absurd (show false = true from hs) Bool.false_ne_true
theorem op_ne : OpR X (compareOp .NotEq) rNe := by
  intro pins s σ H x y v u Q I rx ry h
  obtain ⟨hs, q⟩ := h
  cases x with
  | non =>
    cases rx
    cases y with
    | non => cases ry; exact PySem.EqNone.ne_none_none (fin_bl I q (by simp))
    | bl j => cases ry; exact PySem.EqNone.ne_none_bool (fin_bl I q (by simp))
    | int j => obtain ⟨t', rfl⟩ := ry; exact PySem.EqNone.ne_none_int (fin_bl I q (by simp))
    | str j => obtain ⟨t', rfl⟩ := ry; exact PySem.EqNone.ne_none_str (fin_bl I q (by simp))
    | _ => exact absurd (show false = true from hs) Bool.false_ne_true
  | bl i =>
    cases rx
    cases y with
    | non => cases ry; exact PySem.EqNone.ne_bool_none (fin_bl I q (by simp))
    | bl j => cases ry; exact ne_bool (fin_bl I q (congrArg not dec_bl))
    | str j => obtain ⟨t', rfl⟩ := ry; exact PySem.EqMixed.ne_bool_str (fin_bl I q (by simp))
    | _ => exact absurd (show false = true from hs) Bool.false_ne_true
  | int i =>
    obtain ⟨t, rfl⟩ := rx
    cases y with
    | non => cases ry; exact PySem.EqNone.ne_int_none (fin_bl I q (by simp))
    | int j => obtain ⟨t', rfl⟩ := ry; exact ne_int (fin_bl I q (congrArg not dec_int))
    | str j => obtain ⟨t', rfl⟩ := ry; exact PySem.EqMixed.ne_int_str (fin_bl I q (by simp))
    | _ => exact absurd (show false = true from hs) Bool.false_ne_true
  | str i =>
    obtain ⟨t, rfl⟩ := rx
    cases y with
    | non => cases ry; exact PySem.EqNone.ne_str_none (fin_bl I q (by simp))
    | bl j => cases ry; exact PySem.EqMixed.ne_str_bool (fin_bl I q (by simp))
    | int j => obtain ⟨t', rfl⟩ := ry; exact PySem.EqMixed.ne_str_int (fin_bl I q (by simp))
    | str j => obtain ⟨t', rfl⟩ := ry; exact ne_str (fin_bl I q (congrArg not dec_str))
    | _ => exact absurd (show false = true from hs) Bool.false_ne_true
  | byt i =>
    obtain ⟨t, rfl⟩ := rx
    cases y with
    | byt j => obtain ⟨t', rfl⟩ := ry; exact PySem.W.ne_bytes (fin_bl I q (congrArg not dec_byt))
    | _ => exact absurd (show false = true from hs) Bool.false_ne_true
  | _ => cases y <;> exact absurd (show false = true from hs) Bool.false_ne_true

theorem op_lt : OpR X (compareOp .Lt) (rI0 fun i j => .bl (decide (i < j))) := opB0 fun _ _ _ _ _ _ _ q => lt_int q
theorem op_le : OpR X (compareOp .LtE) (rI0 fun i j => .bl (decide (i ≤ j))) := opB0 fun _ _ _ _ _ _ _ q => le_int q
theorem op_gt : OpR X (compareOp .Gt) (rI0 fun i j => .bl (decide (j < i))) := opB0 fun _ _ _ _ _ _ _ q => gt_int q
theorem op_ge : OpR X (compareOp .GtE) (rI0 fun i j => .bl (decide (j ≤ i))) := opB0 fun _ _ _ _ _ _ _ q => ge_int q
/-- two rules for one operation: by cases -/
theorem OpR.or {f : Value → Value → Sem Value} {r r' : R2} (h : OpR X f r) (h' : OpR X f r') : OpR X f (fun x y H Q => r x y H Q ∨ r' x y H Q) := by
  intro pins s σ H x y v u Q I rx ry q
  rcases q with q | q
  · exact h pins s σ H x y v u Q I rx ry q
  · exact h' pins s σ H x y v u Q I rx ry q

theorem nomark (b : Expr) {op : CmpOp} (h : op ≠ .In := by decide) (h2 : op ≠ .NotIn := by decide) : behindInMarks op b = false := by
  have e1 : (op == CmpOp.In) = false := by cases op <;> first | rfl | exact absurd rfl h
  have e2 : (op == CmpOp.NotIn) = false := by cases op <;> first | rfl | exact absurd rfl h2
  cases b <;> simp [behindInMarks, e1, e2]
/-- a comparison as a value; hm: nomark b, or (for in, not in) by with_unfolding_all rfl -/
theorem pe_cmpR {op : CmpOp} {r : R2} (ho : OpR X (compareOp op) r) (ha : PE X a ta) (hb : PE X b tb) (hm : behindInMarks op b = false) : PE X (.Compare a [op] [b] pos) (tOp r ta tb) := by
  intro pins s σ H Q I h
  exact wpAny_Compare1 (binT ha hb I h fun v u s2 x y H2 I2 rx ry q => ho pins s2 σ H2 x y v u Q I2 rx ry q) hm
/-- a reading of a value as a test -/
def tTest (t : TE) : TT := fun σ H Q => t σ H fun x H' => ∃ k, x = .bl k ∧ Q k H'
theorem pt_cmpR {op : CmpOp} {r : R2} (ho : OpR X (compareOp op) r) (ha : PE X a ta) (hb : PE X b tb) (hm : behindInMarks op b = false) : PT X (.Compare a [op] [b] pos) (tTest (tOp r ta tb)) := by
  intro pins s σ H Q I h
  refine wpAny_isTrue_Compare1 (thn (ha pins s σ H _ I h) fun v s1 ⟨x, H1, I1, r1, q1⟩ => thn (hb pins s1 σ H1 _ I1 q1) fun u s2 ⟨y, H2, I2, r2, q2⟩ =>
    thn (ho pins s2 σ H2 x y v u _ I2 r1 r2 q2) fun c s3 ⟨z, H3, I3, r3, k, e, q3⟩ => ?_) hm
  subst e
  cases r3
  exact wpAny_truthy_bool ⟨H3, I3, q3⟩
/-- a op1 b op2 c -/
def tChain (r r' : R2) (ta tb tc : TE) : TE := fun σ H Q => ta σ H fun x H1 => tb σ H1 fun y H2 => r x y H2 fun z H3 => ∃ k, z = .bl k ∧
  (if k = true then tc σ H3 fun w' H4 => r' y w' H4 Q else Q (.bl false) H3)
theorem pe_chain {op op' : CmpOp} {r r' : R2} (ho : OpR X (compareOp op) r) (ho' : OpR X (compareOp op') r') (ha : PE X a ta) (hb : PE X b tb) (hc : PE X c tc)
    (hm : lastMarks [op, op'] [b, c] = false := by with_unfolding_all rfl) : PE X (.Compare a [op, op'] [b, c] pos) (tChain r r' ta tb tc) := by
  intro pins s σ H Q I h
  refine Compare_chain (thn (ha pins s σ H _ I h) fun v s1 ⟨x, H1, I1, r1, q1⟩ => chain_link (thn (hb pins s1 σ H1 _ I1 q1) fun u s2 ⟨y, H2, I2, r2, q2⟩ =>
    thn (ho pins s2 σ H2 x y v u _ I2 r1 r2 q2) fun d s3 ⟨z, H3, I3, r3, k, e, q3⟩ => ?_)) hm
  subst e
  cases r3
  refine wpAny_truthy_bool ?_
  cases k with
  | false => exact ite_ff ⟨.bl false, H3, I3, rfl, q3⟩
  | true => exact ite_tt (chain_last (thn (hc pins s3 σ H3 _ I3 q3) fun w' s4 ⟨z', H4, I4, r4, q4⟩ => ho' pins s4 σ H4 y z' u w' Q I4 r2 r4 q4))
/-! ### truth -/
theorem line63 : (sizeLine : Nat) < 2 ^ 63 := by rw [sizeLine_eq]; decide
/-! ### strs and bytes -/
theorem op_add_str : OpR X (binaryOp .Add) (fun x y H Q => ∃ i j, x = .str i ∧ y = .str j ∧ i.length + j.length ≤ sizeLine ∧ Q (.str (i ++ j)) H) := by
  intro pins s σ H x y v u Q I rx ry h
  obtain ⟨i, j, rfl, rfl, hz, q⟩ := h
  obtain ⟨t, rfl⟩ := rx
  obtain ⟨t', rfl⟩ := ry
  exact add_str (fun t' tk => ⟨.str (i ++ j), H, I.tok _, ⟨_, rfl⟩, q⟩) hz
/-! ### scalar builtins, by CallR -/
theorem vals1 {x : V} {us : List Value} (r : Vals [x] us) : ∃ u, us = [u] ∧ RelV x u := by
  cases r with
  | cons r1 r2 => cases r2; exact ⟨_, rfl, r1⟩
theorem vals2 {x y : V} {us : List Value} (r : Vals [x, y] us) : ∃ u w', us = [u, w'] ∧ RelV x u ∧ RelV y w' := by
  cases r with
  | cons r1 r2 =>
    cases r2 with
    | cons r3 r4 => cases r4; exact ⟨_, _, rfl, r1, r3⟩
theorem call_max2 (hc : X.calm = true) : CallR X (.builtin "max") (fun xs H Q => ∃ i j, xs = [.int i, .int j] ∧ Q (.int (if j > i then j else i)) H) := by
  intro pins s σ H xs us Q I r h
  obtain ⟨i, j, rfl, q⟩ := h
  obtain ⟨u, w', rfl, ⟨t, rfl⟩, ⟨t', rfl⟩⟩ := vals2 r
  refine max_two_ints (I.ok.hd hc) fun h' tk k => ⟨_, H, I.kept k, ?_, q⟩
  by_cases hj : j > i
  · rw [if_pos hj, if_pos hj]; exact ⟨_, rfl⟩
  · rw [if_neg hj, if_neg hj]; exact ⟨_, rfl⟩
theorem call_min2 (hc : X.calm = true) : CallR X (.builtin "min") (fun xs H Q => ∃ i j, xs = [.int i, .int j] ∧ Q (.int (if j < i then j else i)) H) := by
  intro pins s σ H xs us Q I r h
  obtain ⟨i, j, rfl, q⟩ := h
  obtain ⟨u, w', rfl, ⟨t, rfl⟩, ⟨t', rfl⟩⟩ := vals2 r
  refine min_two_ints (I.ok.hd hc) fun h' tk k => ⟨_, H, I.kept k, ?_, q⟩
  by_cases hj : j < i
  · rw [if_pos hj, if_pos hj]; exact ⟨_, rfl⟩
  · rw [if_neg hj, if_neg hj]; exact ⟨_, rfl⟩
theorem call_int1 : CallR X (.type "int") (fun xs H Q => (∃ i, xs = [.int i] ∧ Q (.int i) H) ∨ ∃ k, xs = [.bl k] ∧ Q (.int (if k then 1 else 0)) H) := by
  intro pins s σ H xs us Q I r h
  rcases h with ⟨i, rfl, q⟩ | ⟨k, rfl, q⟩
  · obtain ⟨u, rfl, t, rfl⟩ := vals1 r
    exact call_int_int ⟨.int i, H, I, ⟨_, rfl⟩, q⟩
  · obtain ⟨u, rfl, r1⟩ := vals1 r
    cases r1
    exact call_int_bool ⟨.int (if k then 1 else 0), H, I.tok _, ⟨_, rfl⟩, q⟩
theorem call_str_int : CallR X (.type "str") (fun xs H Q => ∃ i, xs = [.int i] ∧ i.natAbs.log2 < 1920 ∧ Q (.str (toString i)) H) := by
  intro pins s σ H xs us Q I r h
  obtain ⟨i, rfl, hz, q⟩ := h
  obtain ⟨u, rfl, t, rfl⟩ := vals1 r
  exact PySem.P.str_of_int hz ⟨.str _, H, I.tok _, ⟨_, rfl⟩, q⟩
end
end L2

namespace L2
open PySem PySem.Spec PyProof.Rows

/-! ### an instance, its attributes a map -/
structure ObjM (h : Heap) (x dx C : Addr) (mA : Str → Option Value) : Prop where
  obj : h.get? x = some (PySem.W.instObj C dx)
  ns : h.Ns1 dx mA
  ne : dx ≠ x

theorem lookIn_ns {h : Heap} {dx : Addr} {mA : Str → Option Value} (n : h.Ns1 dx mA) : ∃ od, h.get? dx = some od ∧ ∀ name, PySem.W.lookIn name od = some (mA name) := by
  obtain ⟨o, es, ep, ho, hd, hk, _, hm⟩ := n
  refine ⟨o, ho, fun name => ?_⟩
  have e := hm name
  unfold nsFind findBy at e
  rw [← Array.find?_toList] at e
  unfold PySem.W.lookIn
  rw [hd]
  dsimp only
  split
  · rename_i y q
    rw [q] at e
    exact congrArg some e
  · rename_i q
    rw [q] at e
    have a : es.toList.any (·.refKey) = false := by
      rw [List.any_eq_false]
      intro y hy
      obtain ⟨z, t, hkey⟩ := hk y (Array.mem_toList_iff.mp hy)
      simp [DictEntry.refKey, hkey]
    have a' : ¬ es.toList.any (·.refKey) = true := by rw [a]; exact Bool.false_ne_true
    rw [if_neg a']
    exact congrArg some e

theorem ObjM.look {h : Heap} {x dx C : Addr} {mA : Str → Option Value} (I : ObjM h x dx C mA) : ∃ od, PySem.W.InstAt h x (PySem.W.instObj C dx) C (some od) ∧ ∀ name, PySem.W.lookIn name od = some (mA name) :=
  let ⟨od, ho, hl⟩ := lookIn_ns I.ns
  ⟨od, ⟨I.obj, rfl, rfl, ho⟩, hl⟩

section
variable {prog : Program} {w : World} {A : Around} {E : Value → Shared → Prop} {s : Shared} {K : PySem.W.Frag} {x dx C f : Addr} {mA : Str → Option Value} {name : Str} {v : Value}

theorem get_map {expr : Bool} {Q : Value → Shared → Prop} (X : K.In s.heap) (I : ObjM s.heap x dx C mA) (hg : PySem.W.plainGet K C name = true) (hh : PySem.W.hasDictIn K C = true)
    (ha : PySem.W.findIn K (.ref C) name = some none) (hv : mA name = some v) (hv' : PySem.W.handedIn v = true) (h : Q v { s with toks := s.toks + 1 }) :
    wpAny (model prog w) A (getAttr (.ref x) name expr) Q E s := by
  obtain ⟨od, J, hl⟩ := I.look
  exact PySem.W.get_value X J (PySem.W.plainGet_of hg).1 (PySem.W.findObj_own hh ha rfl (by rw [hl, hv])) hv' h

theorem get_meth {pl : Sem Bool} {Q : Value × List Value → Shared → Prop} (X : K.In s.heap) (I : ObjM s.heap x dx C mA) (hg : PySem.W.plainGet K C name = true)
    (hf : PySem.W.findIn K (.ref C) name = some (some (.ref f))) (ht : PySem.W.isFn K (.ref f) = true) (hv : mA name = none) (h : Q (.ref f, [.ref x]) s) :
    wpAny (model prog w) A (getMethod (.ref x) name pl) Q E s := by
  obtain ⟨od, J, hl⟩ := I.look
  exact PySem.W.method_fn X J (PySem.W.plainGet_of hg).1 (PySem.W.plainGet_of hg).2 hf (beq_iff_eq.mp ht) (by show (PySem.W.lookIn name od).map (·.isSome) = some false; rw [hl, hv]; rfl) h

theorem set_map {ns : List Str} {Q : Unit → Shared → Prop} (X : K.In s.heap) (I : ObjM s.heap x dx C mA)
    (hs : PySem.W.findIn K (.ref C) "__setattr__" = some (some (.builtin "object.__setattr__"))) (hp : PySem.W.plainOver K C = true) (ht : PySem.W.takerIn K C name = some none) (hh : PySem.W.hasDictIn K C = true)
    (hw : PySem.Within mA ns) (hsz : ns.length ≤ sizeLine)
    (h : ∀ h', ObjM h' x dx C (fun y => if y = name then some v else mA y) → Heap.SameBut dx s.heap h' → Q () { s with heap := h', toks := s.toks + 2 }) :
    wpAny (model prog w) A (setAttr (.ref x) name v) Q E s := by
  obtain ⟨od, J, hl⟩ := I.look
  refine PySem.W.set_plain X J hs (PySem.W.osa_open (s := { s with toks := s.toks + 1 }) (r := none) X J hp ht fun b => ?_)
  obtain ⟨cd, hc, hd'⟩ := PySem.W.any_some hh
  have hx : s.heap.get? x = some ⟨.ref C, some dx, .plain, #[]⟩ := I.obj
  refine wpAny_bind (wpAny_pure (wpAny_bind (wpAny_bind (wpAny_loadPart hx (wpAny_bind (PySem.W.Looks.here (s := { s with toks := s.toks + 1 }) (PySem.W.looks_clsIn X hc) ?_))))))
  rw [hd']
  refine wpAny_pure (a := some dx) (wpAny_bind (wpAny_pure (wpAny_bind ?_)))
  refine wpAny_nsSet1 (s := { s with toks := s.toks + 1 }) I.ns fun h' hn2 hs2 => ?_
  obtain ⟨oD, esD, epD, hoD, hdD, hcD⟩ := hn2.count (PySem.Within.cons name v hw)
  refine wpAny_bind (wpAny_lookBehind hoD (by rw [hdD]; exact pastItsLine_dict (Nat.le_trans hcD (by rw [List.length_cons]; omega))) ?_)
  exact wpAny_pure (h _ ⟨(hs2.2 _ (Ne.symm I.ne)).trans I.obj, hn2, I.ne⟩ hs2)

/-- C(..): the dict at the heap's end, the instance behind it; then its __init__ -/
theorem make_map {R : Result → Shared → Prop} {vs : List Value} {kw : List (Str × Value)} (X : K.In s.heap) (hm : PySem.W.makesIn K C = true)
    (hi : PySem.W.findIn K (.ref C) "__init__" = some (some (.ref f))) (hf : PySem.W.typeIn K (.ref f) = some (.type "function"))
    (h : codeAny (model prog w) (A.under (.builtin "type.__call__" ⟨.ref C :: vs, kw⟩)) (.call (.ref f) ⟨.ref (s.heap.objs.size + 1) :: vs, kw⟩) (PySem.W.InitBack (s.heap.objs.size + 1) R)
      { s with heap := (s.heap.push PySem.W.emptyDict).push (PySem.W.instObj C s.heap.objs.size) }) :
    codeAny (model prog w) A (.call (.ref C) ⟨vs, kw⟩) R s := by
  obtain ⟨hh, g, d, t, os⟩ := s
  exact PySem.W.make_core (PySem.W.makes_of X hm) (PySem.W.looks_findIn X hi) (fun self => PySem.W.bind_fn X self hf) (.inl rfl) h
end

/-! ### the attributes as a list of pairs -/
def putF (f : Str) (v : V) : List (Str × V) → List (Str × V)
  | [] => [(f, v)]
  | (g, x) :: r => if g = f then (g, v) :: r else (g, x) :: putF f v r
theorem lookup_putF (f g : Str) (v : V) : ∀ fs : List (Str × V), (putF f v fs).lookup g = if g = f then some v else fs.lookup g
  | [] => by
    show List.lookup g [(f, v)] = _
    by_cases h : g = f
    · have hb : (g == f) = true := beq_iff_eq.mpr h
      simp only [List.lookup, hb, if_pos h]
    · have hb : (g == f) = false := beq_eq_false_iff_ne.mpr h
      simp only [List.lookup, hb, if_neg h]
  | (k, x) :: r => by
    have ih := lookup_putF f g v r
    rw [show putF f v ((k, x) :: r) = (if k = f then (k, v) :: r else (k, x) :: putF f v r) from rfl]
    by_cases hk : k = f
    · rw [if_pos hk]
      by_cases h : g = k
      · have hb : (g == k) = true := beq_iff_eq.mpr h
        simp only [List.lookup, hb, if_pos (h.trans hk)]
      · have hb : (g == k) = false := beq_eq_false_iff_ne.mpr h
        simp only [List.lookup, hb, if_neg (fun e : g = f => h (e.trans hk.symm))]
    · rw [if_neg hk]
      by_cases h : g = k
      · have hb : (g == k) = true := beq_iff_eq.mpr h
        simp only [List.lookup, hb, if_neg (fun e : g = f => hk (h.symm.trans e))]
      · have hb : (g == k) = false := beq_eq_false_iff_ne.mpr h
        simp only [List.lookup, hb]
        exact ih
theorem keys_putF (f : Str) (v : V) : ∀ fs : List (Str × V), f ∈ (putF f v fs).map (·.1) ∧ ∀ g, g ∈ fs.map (·.1) → g ∈ (putF f v fs).map (·.1)
  | [] => ⟨by simp [putF], fun g h => by simp at h⟩
  | (k, x) :: r => by
    obtain ⟨i1, i2⟩ := keys_putF f v r
    rw [show putF f v ((k, x) :: r) = (if k = f then (k, v) :: r else (k, x) :: putF f v r) from rfl]
    by_cases hk : k = f
    · rw [if_pos hk]
      subst hk
      exact ⟨by simp, fun g h => by simpa using h⟩
    · rw [if_neg hk]
      refine ⟨?_, fun g h => ?_⟩
      · rw [List.map_cons]
        exact List.mem_cons_of_mem _ i1
      · rw [List.map_cons] at h ⊢
        rcases List.mem_cons.mp h with e | e
        · exact List.mem_cons.mpr (.inl e)
        · exact List.mem_cons_of_mem _ (i2 g e)
theorem length_putF (f : Str) (v : V) : ∀ fs : List (Str × V), (putF f v fs).length ≤ fs.length + 1
  | [] => by simp [putF]
  | (k, x) :: r => by
    have ih := length_putF f v r
    rw [show putF f v ((k, x) :: r) = (if k = f then (k, v) :: r else (k, x) :: putF f v r) from rfl]
    by_cases hk : k = f
    · rw [if_pos hk, List.length_cons, List.length_cons]; omega
    · rw [if_neg hk, List.length_cons, List.length_cons]; omega

theorem RelO.some_of {v : V} {o : Option Value} (r : RelO (some v) o) : ∃ u, o = some u ∧ RelV v u := by
  cases o with
  | none => exact (show False from r).elim
  | some u => exact ⟨u, rfl, r⟩
theorem RelO.none_of {o : Option Value} (r : RelO none o) : o = none := by
  cases o with
  | none => rfl
  | some u => exact (show False from r).elim
theorem handed_of {v : V} {u : Value} (r : RelV v u) : PySem.W.handedIn u = true := by
  cases v with
  | non => cases (show u = Value.none from r); rfl
  | bl b => cases (show u = Value.bool b from r); rfl
  | int i => obtain ⟨t, e⟩ := (show ∃ t, u = Value.int i t from r); cases e; rfl
  | str x => obtain ⟨t, e⟩ := (show ∃ t, u = Value.str x t from r); cases e; rfl
  | byt b => obtain ⟨t, e⟩ := (show ∃ t, u = Value.bytes b t from r); cases e; rfl
  | flt b => obtain ⟨t, e⟩ := (show ∃ t, u = Value.float b t from r); cases e; rfl
  | ref a => cases (show u = Value.ref a from r); rfl
  | ty n => cases (show u = Value.type n from r); rfl

section
variable {P : Program} {w : World} {H H' : Hp} {h h' : Heap} {a C dx : Addr} {fs fs' : List (Str × V)}
theorem ins_get (hok : HOk P w H h) (e : H a = some (.ins C dx fs)) : ∃ mA, ObjM h a dx C mA ∧ (∀ f, RelO (fs.lookup f) (mA f)) ∧ PySem.Within mA (fs.map (·.1)) ∧ fs.length ≤ 1000 ∧ H dx = some (.own a) := by
  obtain ⟨d, z, ne, ob, mA, n, r, q⟩ := (show ObjOk P w H h a (.ins C dx fs) from hok a _ e)
  exact ⟨mA, ⟨ob, n, ne⟩, r, q, z, d⟩
end

/-! ### what of the text a class must have -/
structure Cls (K : PySem.W.Frag) (C : Addr) : Prop where
  pg : PySem.W.plainGet K C Str.empty = true
  hd : PySem.W.hasDictIn K C = true
  po : PySem.W.plainOver K C = true
  sa : PySem.W.findIn K (.ref C) "__setattr__" = some (some (.builtin "object.__setattr__"))
theorem Cls.get {K : PySem.W.Frag} {C : Addr} (c : Cls K C) (f : Str) : PySem.W.plainGet K C f = true := c.pg
/-- no class of it has the name -/
def NoAttr (K : PySem.W.Frag) (C : Addr) (f : Str) : Prop := PySem.W.findIn K (.ref C) f = some none
theorem NoAttr.taker {K : PySem.W.Frag} {C : Addr} {f : Str} (n : NoAttr K C f) : PySem.W.takerIn K C f = some none := by
  unfold PySem.W.takerIn
  rw [show PySem.W.findIn K (.ref C) f = some none from n]
  rfl
/-- a constant of the class -/
structure Con (K : PySem.W.Frag) (C : Addr) (f : Str) (v : V) (u : Value) : Prop where
  at_ : PySem.W.findIn K (.ref C) f = some (some u)
  rel : RelV v u
  get : PySem.W.specialIn K u "__get__" = some none
  cp : PySem.W.copiedNames.contains f = false
/-- a method: a plain def of the class or of one above it -/
structure Meth (K : PySem.W.Frag) (C : Addr) (m : Str) (f : Addr) : Prop where
  at_ : PySem.W.findIn K (.ref C) m = some (some (.ref f))
  fn : PySem.W.isFn K (.ref f) = true
  kp : PySem.W.keepIn K (.ref f) = true

section
variable {X : Cx} {pins : List (Addr × Obj)} {σ : St} {H : Hp} {s : Shared} {a C dx : Addr} {fs : List (Str × V)} {f : Str} {v : V} {A : Around} {E : Value → Shared → Prop}

theorem getattr_ok {b : Bool} {Q : Value → Shared → Prop} (I : Inv X pins σ H s) (e : H a = some (.ins C dx fs)) (c : Cls X.K C) (n : NoAttr X.K C f) (l : fs.lookup f = some v)
    (h : ∀ u s', Inv X pins σ H s' → RelV v u → Q u s') : wpAny (model X.prog X.w) A (getAttr (.ref a) f b) Q E s := by
  obtain ⟨mA, O, r, _, _, _⟩ := ins_get I.hok e
  obtain ⟨u, hu, ru⟩ := RelO.some_of (v := v) (o := mA f) (by rw [← l]; exact r f)
  exact get_map I.kIn O (c.get f) c.hd n hu (handed_of ru) (h u _ (I.tok _) ru)

theorem getmeth_ok {m : Str} {g : Addr} {pl : Sem Bool} {Q : Value × List Value → Shared → Prop} (I : Inv X pins σ H s) (e : H a = some (.ins C dx fs)) (c : Cls X.K C) (k : Meth X.K C m g) (l : fs.lookup m = none)
    (h : Q (.ref g, [.ref a]) s) : wpAny (model X.prog X.w) A (getMethod (.ref a) m pl) Q E s := by
  obtain ⟨mA, O, r, _, _, _⟩ := ins_get I.hok e
  have hn : mA m = none := RelO.none_of (by rw [← l]; exact r m)
  exact get_meth I.kIn O (c.get m) k.at_ k.fn hn h

theorem setattr_ok {y : V} {u : Value} {Q : Unit → Shared → Prop} (I : Inv X pins σ H s) (e : H a = some (.ins C dx fs)) (c : Cls X.K C) (n : NoAttr X.K C f) (hl : fs.length < 1000) (ry : RelV y u)
    (h : ∀ s', Inv X pins σ (upd H a (.ins C dx (putF f y fs))) s' → Q () s') : wpAny (model X.prog X.w) A (setAttr (.ref a) f u) Q E s := by
  obtain ⟨mA, O, r, wi, _, ho⟩ := ins_get I.hok e
  have hz : (fs.map (·.1)).length ≤ sizeLine := by rw [List.length_map, sizeLine_eq]; omega
  refine set_map I.kIn O c.sa c.po n.taker c.hd wi hz fun h' O' sb => h _ ?_
  have hd : ∃ o, h'.get? dx = some o := let ⟨o, _, _, e', _⟩ := O'.ns; ⟨o, e'⟩
  refine I.write (x := a) (e := dx) (by rw [e]; exact True.intro) (.inr ho) (fun b q hb z => (sb.2 b hb).trans z) hd ?_
  refine ⟨by rw [upd_ne O.ne]; exact ho, ?_, O.ne, O'.obj, _, O'.ns, fun g => ?_, fun g hg => ?_⟩
  · have := length_putF f y fs; omega
  · show RelO ((putF f y fs).lookup g) (if g = f then some u else mA g)
    rw [lookup_putF]
    by_cases q : g = f
    · rw [if_pos q, if_pos q]; exact ry
    · rw [if_neg q, if_neg q]; exact r g
  · by_cases q : g = f
    · rw [q]; exact (keys_putF f y fs).1
    · refine (keys_putF f y fs).2 g (wi g fun z => hg ?_)
      show (if g = f then some u else mA g) = none
      rw [if_neg q]; exact z

/-- a new instance, tracked, without attributes -/
theorem Inv.made (I : Inv X pins σ H s) : Inv X pins σ (upd (upd H s.heap.objs.size (.own (s.heap.objs.size + 1))) (s.heap.objs.size + 1) (.ins C s.heap.objs.size []))
    { s with heap := (s.heap.push PySem.W.emptyDict).push (PySem.W.instObj C s.heap.objs.size) } := by
  have e1 : (s.heap.push PySem.W.emptyDict).get? s.heap.objs.size = some PySem.W.emptyDict := Heap.get?_push_size s.heap rfl
  have e2 : ((s.heap.push PySem.W.emptyDict).push (PySem.W.instObj C s.heap.objs.size)).get? (s.heap.objs.size + 1) = some (PySem.W.instObj C s.heap.objs.size) := by
    have := Heap.get?_push_size (s.heap.push PySem.W.emptyDict) (o := PySem.W.instObj C s.heap.objs.size) rfl
    rwa [Heap.size_push] at this
  have e3 : (s.heap.push PySem.W.emptyDict).Ns s.heap.objs.size (fun _ => none) := ⟨PySem.W.emptyDict, #[], _, e1, rfl, (fun e he => absurd he (by simp)), fun _ => rfl⟩
  have I1 := I.laid (a := s.heap.objs.size) (o := .own (s.heap.objs.size + 1)) (h' := s.heap.push PySem.W.emptyDict) (t' := s.toks) (fun b u q => Heap.get?_push_of_some _ q) (Nat.le_refl _) ⟨_, e1⟩
  refine I1.laid (a := s.heap.objs.size + 1) (o := .ins C s.heap.objs.size []) (t' := s.toks) (fun b u q => Heap.get?_push_of_some _ q) (Nat.le_of_eq (Heap.size_push _ _)) ?_
  have ne : s.heap.objs.size ≠ s.heap.objs.size + 1 := Nat.ne_of_lt (Nat.lt_succ_self _)
  refine ⟨by rw [upd_ne ne, upd_same], Nat.zero_le _, ne, e2, fun _ => none, (Heap.Ns1.of_empty e3).at fun o q => Heap.get?_push_of_some _ q, fun _ => True.intro, fun y hy => absurd rfl hy⟩

/-- e.f where nothing but the object is asked: through attributeBase (super) and the last hold -/
theorem attr_of {prog : Program} {w : World} {env : Env} {e : Expr} {f : Str} {pos : Pos} {s : Shared} {Q : Value → Shared → Prop} (hb : attributeBase e f env (eval e env) = eval e env)
    (h : wpAny (model prog w) A (eval e env) (fun o s₁ => wpAny (model prog w) A (getAttr o f true) Q E s₁) E s) : wpAny (model prog w) A (eval (.Attribute e f pos) env) Q E s :=
  Attribute_any_ h (by rw [arm_eval_Attribute, hb])
end

/-! ### readings and rules -/
/-- e.f, an attribute of the instance -/
def tFld (K : PySem.W.Frag) (ta : TE) (f : Str) : TE := fun σ H Q => ta σ H fun x H1 => ∃ a C dx fs v, x = .ref a ∧ H1 a = some (.ins C dx fs) ∧ Cls K C ∧ NoAttr K C f ∧ fs.lookup f = some v ∧ Q v H1
/-- e.f = value -/
def sFld (K : PySem.W.Frag) (ta tv : TE) (f : Str) : TS := fun D σ H => tv σ H fun y H1 => ta σ H1 fun x H2 => ∃ a C dx fs, x = .ref a ∧ H2 a = some (.ins C dx fs) ∧ Cls K C ∧ NoAttr K C f ∧ fs.length < 1000 ∧
  D.nx σ (upd H2 a (.ins C dx (putF f y fs)))
section
variable {X : Cx} {o e value : Expr} {f : Str} {pos pos' tpos : Pos} {ta tv : TE}
theorem pe_fld (he : PE X e ta) (hb : attributeBase e f X.env (eval e X.env) = eval e X.env) : PE X (.Attribute e f pos) (tFld X.K ta f) := by
  intro pins s σ H Q I h
  refine attr_of hb (thn (he pins s σ H _ I h) fun u s1 ⟨x, H1, I1, rx, a, C, dx, fs, v, ex, ea, c, n, l, q⟩ => ?_)
  subst ex
  obtain rfl : u = Value.ref a := rx
  exact getattr_ok I1 ea c n l fun u' s2 I2 ru => ⟨v, H1, I2, ru, q⟩
theorem ps_fld (ha : PE X o ta) (hv : PE X value tv) (hs : swapsWith value (some (.Attribute o f pos')) pos.line X.env = pure false) : PS X (.Assign [.Attribute o f pos'] value pos) (sFld X.K ta tv f) := by
  intro pins s σ H D I h
  refine plainObj_wpAny_Assign_Attribute (thn (hv pins s σ H _ I h) fun u s1 ⟨y, H1, I1, ry, q⟩ => thn (ha pins s1 σ H1 _ I1 q) fun ov s2 ⟨x, H2, I2, rx, a, C, dx, fs, ex, ea, c, n, l, q2⟩ => ?_) hs
  subst ex
  obtain rfl : ov = Value.ref a := rx
  exact setattr_ok I2 ea c n l ry fun s3 I3 => ⟨σ, _, I3, q2⟩
end

/-! ### isinstance -/
section
variable {X : Cx} {pins : List (Addr × Obj)} {σ : St} {H : Hp} {s : Shared} {A : Around} {E : Value → Shared → Prop} {Q : Value → Shared → Prop} {c : Value} {b : Bool}
/-- the type of a value, as the fragment's deciders take it; for an instance its class -/
inductive TyOf (K : PySem.W.Frag) (H : Hp) : V → Value → Prop where
  | non : TyOf K H .non (.type "NoneType")
  | bl (x : Bool) : TyOf K H (.bl x) (.type "bool")
  | int (i : Int) : TyOf K H (.int i) (.type "int")
  | str (x : Str) : TyOf K H (.str x) (.type "str")
  | flt (x : UInt64) : TyOf K H (.flt x) (.type "float")
  | lst {a : Addr} {xs : List V} (e : H a = some (.lst xs)) : TyOf K H (.ref a) (.type "list")
  | frz {a : Addr} {o : Obj} {xs : List V} (e : H a = some (.frz o (.lst xs))) : TyOf K H (.ref a) (.type "list")
  | tup {a : Addr} {xs : List V} (e : H a = some (.tup xs)) : TyOf K H (.ref a) (.type "tuple")
  | dK {a : Addr} {kvs : List (Key × V)} (e : H a = some (.dK kvs)) : TyOf K H (.ref a) (.type "dict")
  | dT {a : Addr} {kvs : List (List Key × V)} (e : H a = some (.dT kvs)) : TyOf K H (.ref a) (.type "dict")
  | ins {a C dx : Addr} {fs : List (Str × V)} (e : H a = some (.ins C dx fs)) (cl : Cls K C) (ha : PySem.W.findIn K (.ref C) "__class__" = some (some (.builtin "object.__class__")))
      (hn : PySem.W.specialIn K (.builtin "object.__class__") "__get__" = some (some (.builtin "getset_descriptor.__get__"))) (htk : PySem.W.takesIn K (.builtin "object.__class__") = some true)
      (hm : PySem.W.mroIn K C (.type "object") = some true) : TyOf K H (.ref a) (.ref C)
/-- isinstance(x, c) for one class c, a built-in or an own one: kitOne's answer -/
theorem isinst_ok {x : V} {u t : Value} (I : Inv X pins σ H s) (rx : RelV x u) (ty : TyOf X.K H x t) (e : PySem.W.kitOne X.K t c = some b) (h : ∀ tk, Q (.bool b) { s with toks := tk }) :
    wpAny (model X.prog X.w) A (call (.builtin "isinstance") [u, c]) Q E s := by
  cases ty with
  | non => cases (show u = Value.none from rx); exact PySem.W.kia_one PySem.W.kitx_none I.kIn True.intro e (fun z => nomatch z) h
  | bl y => cases (show u = Value.bool y from rx); exact PySem.W.kia_one PySem.W.kitx_bool I.kIn True.intro e (fun z => nomatch z) h
  | int i => obtain ⟨t, q⟩ := (show ∃ t, u = Value.int i t from rx); cases q; exact PySem.W.kia_one PySem.W.kitx_int I.kIn True.intro e (fun z => nomatch z) h
  | str y => obtain ⟨t, q⟩ := (show ∃ t, u = Value.str y t from rx); cases q; exact PySem.W.kia_one PySem.W.kitx_str I.kIn True.intro e (fun z => nomatch z) h
  | flt y => obtain ⟨t, q⟩ := (show ∃ t, u = Value.float y t from rx); cases q; exact PySem.W.kia_one PySem.W.kitx_float I.kIn True.intro e (fun z => nomatch z) h
  | @lst a xs ea =>
    cases (show u = Value.ref a from rx)
    obtain ⟨_, _, n, _, h1⟩ := (show ObjOk X.prog X.w H s.heap a (.lst xs) from I.hok a _ ea)
    exact PySem.W.kia_one PySem.W.kitx_list I.kIn ⟨_, h1, rfl⟩ e (fun z => nomatch z) h
  | @frz a ob xs ea =>
    cases (show u = Value.ref a from rx)
    obtain ⟨_, _, _, n, _, h1⟩ := (show ObjOk X.prog X.w H s.heap a (.frz ob (.lst xs)) from I.hok a _ ea)
    exact PySem.W.kia_one PySem.W.kitx_list I.kIn ⟨_, h1, rfl⟩ e (fun z => nomatch z) h
  | @tup a xs ea =>
    cases (show u = Value.ref a from rx)
    obtain ⟨_, _, _, p⟩ := (show ObjOk X.prog X.w H s.heap a (.tup xs) from I.hok a _ ea)
    obtain ⟨o, h1, h2, _⟩ := p
    exact PySem.W.kia_one PySem.W.kitx_tuple I.kIn ⟨o, h1, h2⟩ e (fun z => nomatch z) h
  | @dK a kvs ea =>
    cases (show u = Value.ref a from rx)
    obtain ⟨_, _, vs, _, p⟩ := (show ObjOk X.prog X.w H s.heap a (.dK kvs) from I.hok a _ ea)
    obtain ⟨o, es, ep, h1, h2, _⟩ := p
    exact PySem.W.kia_one PySem.W.kitx_dict I.kIn ⟨o, h1, h2.1⟩ e (fun z => nomatch z) h
  | @dT a kvs ea =>
    cases (show u = Value.ref a from rx)
    obtain ⟨_, _, xs, _, o, es, ep, h1, h2, _⟩ := (show ObjOk X.prog X.w H s.heap a (.dT kvs) from I.hok a _ ea)
    exact PySem.W.kia_one PySem.W.kitx_dict I.kIn ⟨o, h1, h2.1⟩ e (fun z => nomatch z) h
  | @ins a C dx fs ea cl ha hn htk hm =>
    cases (show u = Value.ref a from rx)
    obtain ⟨mA, O, _⟩ := ins_get I.hok ea
    obtain ⟨od, J, _⟩ := O.look
    exact PySem.W.kia_one (PySem.W.kitx_own (cl.get _) cl.hd ha hn htk hm) I.kIn J e (fun z => nomatch z) h
end
end L2

namespace L2
open PySem PySem.Spec PyProof.Rows

/-! ### room -/
structure Room (k : Nat) (A : Around) : Prop where
  hd : A.handled = none
  dp : A.depth + 3 * k + 5 < recursionLimit
  un : A.units + 16 * k + 200 < cLine
theorem Room.mono {j k : Nat} {A : Around} (r : Room k A) (h : j ≤ k) : Room j A := ⟨r.hd, by have := r.dp; omega, by have := r.un; omega⟩
theorem Room.deeper {k : Nat} {A : Around} (r : Room (k + 1) A) (env : Env) : Room k (A.deeper env) :=
  ⟨r.hd, by have := r.dp; show A.depth + 1 + 3 * k + 5 < _; omega, by have := r.un; show A.units + 3 + 16 * k + 200 < _; omega⟩
theorem Room.in1 {k : Nat} {A : Around} (r : Room (k + 1) A) : Room k A.in1 :=
  ⟨r.hd, by have := r.dp; show A.depth + 3 * k + 5 < _; omega, by have := r.un; show A.units + 1 + 16 * k + 200 < _; omega⟩
theorem make_depth {A : Around} {C : Addr} {us : List Value} {kw : List (Str × Value)} : (A.under (.builtin "type.__call__" ⟨.ref C :: us, kw⟩)).depth = A.depth + 1 := by
  first | rfl | simp [Around.under, Code.weight, Code.isCreation, Code.isGuard, Code.isCaller, Code.frames, Code.isFrame, guardIds]
theorem make_units {A : Around} {C : Addr} {us : List Value} {kw : List (Str × Value)} : (A.under (.builtin "type.__call__" ⟨.ref C :: us, kw⟩)).units = A.units + 1 := by
  first | rfl | simp [Around.under, Code.cUnits, Code.frames, Code.isFrame]
theorem Room.make {k : Nat} {A : Around} (r : Room (k + 1) A) (C : Addr) (us : List Value) (kw : List (Str × Value)) : Room k (A.under (.builtin "type.__call__" ⟨.ref C :: us, kw⟩)) :=
  ⟨r.hd, by have := r.dp; rw [make_depth]; omega, by have := r.un; rw [make_units]; omega⟩
theorem Room.depth {k : Nat} {A : Around} (r : Room k A) : A.depth < recursionLimit := by have := r.dp; omega
theorem Room.units {k : Nat} {A : Around} (r : Room k A) : A.units + 64 < cLine := by have := r.un; omega
/-! ### argument lists and displays -/
def tNil : TA := fun _ H Q => Q [] H
def tCons (ta : TE) (tr : TA) : TA := fun σ H Q => ta σ H fun x H1 => tr σ H1 fun xs H2 => Q (x :: xs) H2
section
variable {X : Cx} {e : Expr} {es : List Expr} {te : TE} {t : TA} {pos : Pos}
theorem pa_nil : PA X [] tNil := fun _ _ _ _ H Q I h => Calls.spliced_nil ⟨[], H, I, .nil, h⟩
theorem pa_cons (ha : PE X e te) (hr : PA X es t) (hs : starEach (e :: es) X.env = (false, eval e X.env) :: starEach es X.env := by rfl) : PA X (e :: es) (tCons te t) := by
  intro pos pins s σ H Q I h
  rw [hs]
  show wpAny _ _ (spliced ((false, eval e X.env) :: backTo pos (starEach es X.env))) _ _ s
  refine Calls.spliced_cons (thn (ha pins s σ H _ I h) fun u s1 ⟨x, H1, I1, r1, q1⟩ => ?_)
  exact thn (hr pos pins s1 σ H1 _ I1 q1) fun us s2 ⟨xs, H2, I2, r2, q2⟩ => ⟨x :: xs, H2, I2, .cons r1 r2, q2⟩

/-- a tuple, a list of written items -/
def tTup (t : TA) : TE := fun σ H Q => t σ H fun xs H1 => xs.length ≤ sizeLine ∧ ∀ p, H1 p = none → Q (.ref p) (upd H1 p (.tup xs))
def tLst (t : TA) : TE := fun σ H Q => t σ H fun xs H1 => xs.length ≤ sizeLine ∧ ∀ p, H1 p = none → Q (.ref p) (upd H1 p (.lst xs))
theorem pe_tup {x1} (h : PA X es t) : PE X (.Tuple es x1 pos) (tTup t) := by
  intro pins s σ H Q I hq
  refine wpAny_Tuple_spliced (thn (h pos pins s σ H _ I hq) fun us s1 ⟨xs, H1, I1, r, z, q⟩ => ⟨by rw [← r.length]; exact z, ?_⟩)
  have hf : H1 s1.heap.objs.size = none := I1.hok.fresh (Nat.le_refl _)
  refine ⟨.ref s1.heap.objs.size, upd H1 s1.heap.objs.size (.tup xs), I1.laid (t' := s1.toks) (fun b u e => Heap.get?_push_of_some _ e) (Nat.le_refl _) ?_, rfl, q _ hf⟩
  exact ⟨z, us, r, ⟨_, Heap.get?_push_size _ rfl, rfl, _, rfl⟩⟩
theorem pe_lst (h : PA X es t) : PE X (.List es pos) (tLst t) := by
  intro pins s σ H Q I hq
  refine wpAny_List_spliced (thn (h pos pins s σ H _ I hq) fun us s1 ⟨xs, H1, I1, r, z, q⟩ => ⟨by rw [← r.length]; exact z, ?_⟩)
  have hf : H1 s1.heap.objs.size = none := I1.hok.fresh (Nat.le_refl _)
  refine ⟨.ref s1.heap.objs.size, upd H1 s1.heap.objs.size (.lst xs), I1.laid (t' := s1.toks) (fun b u e => Heap.get?_push_of_some _ e) (Nat.le_refl _) ?_, rfl, q _ hf⟩
  exact ⟨z, us, 0, r, Heap.get?_push_size _ rfl⟩
end

/-! ### what a def promises -/
/-- a def's promise: the bound arguments in the parameters' order, the heap, the wanted end, the wanted exception -/
abbrev Sp := List V → Hp → VK → XK → Prop
/-- how an exception lies behind a call (file 08 gives it): the callers' frames, abstract heap and state ahead of the call, the wish, the exception, the state -/
abbrev CXT := List Env → Hp → Shared → XK → Value → Shared → Prop

/-- the state at a call -/
structure Env0 (P : Program) (w : World) (K : PySem.W.Frag) (mg : Str → Option Value) (base : Heap) (A : Around) (outer : List Env) (s : Shared) (H : Hp) : Prop where
  frames : A.frames = some outer
  mod : Mod K mg base
  bs : ∀ b o, base.get? b = some o → s.heap.get? b = some o ∧ H b = none
  bsz : base.objs.size ≤ s.heap.objs.size
  funs : s.heap.FunFrames base outer
  frf : ∀ b ∈ frs outer, H b = none
  hok : HOk P w H s.heap
  bare : AllBare s.gens
/-- a call's end -/
def CE (outer : List Env) (P : Program) (w : World) (H : Hp) (s : Shared) (Q : VK) (u : Value) (s' : Shared) : Prop :=
  ∃ v H', s'.os = s.os ∧ AllBare s'.gens ∧ Un (frs outer) [] H H' s.heap s'.heap ∧ HOk P w H' s'.heap ∧ RelV v u ∧ Q v H'
def CR (CX : CXT) (outer : List Env) (P : Program) (w : World) (H : Hp) (s : Shared) (Q : VK) (E : XK) (r : Result) (s' : Shared) : Prop :=
  match r with
  | .ok (.ret u) => CE outer P w H s Q u s'
  | .ok _ => False
  | .error e => CX outer H s E e s'
structure FnOk (P : Program) (w : World) (K : PySem.W.Frag) (mg : Str → Option Value) (base : Heap) (CX : CXT) (k : Nat) (f : Addr) (fd : FuncData) (ps : List Str) (sp : Sp) : Prop where
  len : ∀ vs H Q E, sp vs H Q E → vs.length = ps.length
  run : ∀ (A : Around) (outer : List Env) (s : Shared) (H : Hp) (args : Args) (us : List Value) (vs : List V) (Q : VK) (E : XK), Room k A → Env0 P w K mg base A outer s H → BindsTo s fd args (ps.zip us) → Vals vs us → sp vs H Q E →
    codeAny (model P w) A (.call (.ref f) args) (CR CX outer P w H s Q E) s
theorem FnOk.mono {P : Program} {w : World} {K : PySem.W.Frag} {mg : Str → Option Value} {base : Heap} {CX : CXT} {j k : Nat} {f : Addr} {fd : FuncData} {ps : List Str} {sp : Sp} (F : FnOk P w K mg base CX j f fd ps sp) (h : j ≤ k) :
    FnOk P w K mg base CX k f fd ps sp := ⟨F.len, fun A outer s H args us vs Q E hr => F.run A outer s H args us vs Q E (hr.mono h)⟩
/-- a weaker promise -/
theorem FnOk.imp {P : Program} {w : World} {K : PySem.W.Frag} {mg : Str → Option Value} {base : Heap} {CX : CXT} {k : Nat} {f : Addr} {fd : FuncData} {ps : List Str} {sp sp' : Sp} (F : FnOk P w K mg base CX k f fd ps sp)
    (h : ∀ vs H Q E, sp' vs H Q E → sp vs H Q E) : FnOk P w K mg base CX k f fd ps sp' :=
  ⟨fun vs H Q E q => F.len vs H Q E (h _ _ _ _ q), fun A outer s H args us vs Q E hr he hb hv hs => F.run A outer s H args us vs Q E hr he hb hv (h _ _ _ _ hs)⟩

theorem Env0.make {P : Program} {w : World} {K : PySem.W.Frag} {mg : Str → Option Value} {base : Heap} {A : Around} {outer : List Env} {s : Shared} {H : Hp} (e : Env0 P w K mg base A outer s H) (C : Addr) (us : List Value) (kw : List (Str × Value)) :
    Env0 P w K mg base (A.under (.builtin "type.__call__" ⟨.ref C :: us, kw⟩)) outer s H := ⟨by first | exact e.frames | (simpa [Around.under, Code.envs, Code.isFrame, pushEnvs] using e.frames), e.mod, e.bs, e.bsz, e.funs, e.frf, e.hok, e.bare⟩
theorem Env0.in1 {P : Program} {w : World} {K : PySem.W.Frag} {mg : Str → Option Value} {base : Heap} {A : Around} {outer : List Env} {s : Shared} {H : Hp} (e : Env0 P w K mg base A outer s H) :
    Env0 P w K mg base A.in1 outer s H := ⟨e.frames, e.mod, e.bs, e.bsz, e.funs, e.frf, e.hok, e.bare⟩

section
variable {X : Cx} {pins : List (Addr × Obj)} {σ : St} {H : Hp} {s s' : Shared}
/-- from a body: what a callee wants -/
theorem Inv.env0 (I : Inv X pins σ H s) : Env0 X.prog X.w X.K X.mg X.base X.A X.stack s H :=
  ⟨I.ok.frames, I.ok.mod, I.bs, Nat.le_trans I.ok.bsz I.sz, I.stack, I.stkFree, I.hok, I.bare⟩
/-- behind a call -/
theorem Inv.after {Q : VK} {u : Value} (I : Inv X pins σ H s) (h : CE X.stack X.prog X.w H s Q u s') : EP X pins σ Q u s' := by
  obtain ⟨v, H', os, bare, un, hok, r, q⟩ := h
  obtain ⟨hh, g, d, t, os'⟩ := s'
  obtain rfl : os' = s.os := os
  exact ⟨v, H', I.call (h' := hh) (g' := g) (d' := d) (t' := t) (ch := []) un hok bare (fun b z => absurd z (by simp)), r, q⟩
end

/-! ### calls -/
/-- f(..): the written arguments, then the defaults dvs; E: what is wanted of an exception -/
def tCall (sp : Sp) (dvs : List V) (E : XK) (t : TA) : TE := fun σ H Q => t σ H fun vs H1 => sp (vs ++ dvs) H1 Q E
/-- C(..): a new instance and its dict, then __init__ -/
def tMake (C : Addr) (sp : Sp) (dvs : List V) (E : XK) (t : TA) : TE := fun σ H Q => t σ H fun vs H1 => ∀ x dx, H1 x = none → H1 dx = none → dx ≠ x →
  sp (.ref x :: (vs ++ dvs)) (upd (upd H1 dx (.own x)) x (.ins C dx [])) (fun v H2 => v = .non ∧ Q (.ref x) H2) E

/-- how the parameters are bound: us the positional arguments, kw the keywords' values by name, ds the defaults that fill up -/
def Binds (K : PySem.W.Frag) (fd : FuncData) (ps : List Str) (ds : List Value) : Prop :=
  ∀ (s : Shared) (us : List Value), K.In s.heap → (us ++ ds).length = ps.length → BindsTo s fd ⟨us, []⟩ (ps.zip (us ++ ds))
/-- every parameter is given -/
theorem Binds.all {K : PySem.W.Frag} {fd : FuncData} {ps : List Str} (h : ∀ us : List Value, us.length = ps.length → bindArgs fd ⟨us, []⟩ = pure (ps.zip us)) : Binds K fd ps [] := fun s us _ hl => by
  rw [List.append_nil] at hl ⊢
  exact .of_eq (h us hl)

/-- an exception of a callee reaches what this body wants of exceptions -/
def Passes (CX : CXT) (X : Cx) (E : XK) : Prop := ∀ (pins : List (Addr × Obj)) (σ : St) (H : Hp) (s : Shared) (e : Value) (s' : Shared), Inv X pins σ H s → CX X.stack H s E e s' → X.xe e s'

section
variable {X : Cx} {CX : CXT} {k : Nat} {f C : Addr} {fd : FuncData} {ps : List Str} {sp : Sp} {dvs : List V} {ds : List Value} {E : XK} {x m : Str} {p pos apos : Pos} {e o : Expr} {es : List Expr} {ta : TE} {t : TA}

/-- the callee runs -/
theorem run_fn {pins : List (Addr × Obj)} {σ : St} {H : Hp} {s : Shared} {Q : VK} {us : List Value} {vs : List V} (F : FnOk X.prog X.w X.K X.mg X.base CX k f fd ps sp) (hr : Room k X.A) (hb : Binds X.K fd ps ds) (hd : Vals dvs ds) (hx : Passes CX X E)
    (I : Inv X pins σ H s) (r : Vals vs us) (h : sp (vs ++ dvs) H Q E) : wpAny (model X.prog X.w) X.A (call (.ref f) us) (EP X pins σ Q) X.xe s := by
  have r2 : Vals (vs ++ dvs) (us ++ ds) := r.append hd
  have hl : (us ++ ds).length = ps.length := by rw [← r2.length]; exact F.len _ _ _ _ h
  refine wpAny_call (codeAny_mono (F.run X.A X.stack s H ⟨us, []⟩ (us ++ ds) (vs ++ dvs) Q E hr I.env0 (hb s us I.kIn hl) r2 h) fun r s' hq => ?_)
  cases r with
  | error e => exact hx pins σ H s e s' I hq
  | ok fl =>
    cases fl with
    | ret u => exact I.after hq
    | next => exact False.elim hq
    | brk => exact False.elim hq
    | cont => exact False.elim hq

theorem pe_call (F : FnOk X.prog X.w X.K X.mg X.base CX k f fd ps sp) (hr : Room k X.A) (hg : Gl X x) (hm : X.mg x = some (.ref f)) (hk : PySem.W.keepIn X.K (.ref f) = true) (hb : Binds X.K fd ps ds) (hd : Vals dvs ds) (hx : Passes CX X E)
    (ha : PA X (e :: es) t) (hdb : (x == ("__debug__" : Str)) = false := by decide) (he : starEach (e :: es) X.env = (false, eval e X.env) :: starEach es X.env := by rfl) (hpl : (backTo pos (starEach es X.env)).any (·.1) = false := by rfl) :
    PE X (.Call (.Name x p) (e :: es) [] pos) (tCall sp dvs E t) := by
  intro pins s σ H Q I h
  refine wpAny_Call_Name_kw (ld_glob I hg hm ?_ hdb)
  refine PySem.W.callWith_K (h₀ := X.base) I.ok.mod.kin hk (thn (ha pos pins s σ H _ I h) fun us s1 ⟨vs, H1, I1, r, q⟩ => ⟨I1.kIn, ?_⟩) he hpl
  exact run_fn F hr hb hd hx I1 r q
theorem pe_call0 (F : FnOk X.prog X.w X.K X.mg X.base CX k f fd ps sp) (hr : Room k X.A) (hg : Gl X x) (hm : X.mg x = some (.ref f)) (hk : PySem.W.keepIn X.K (.ref f) = true) (hb : Binds X.K fd ps ds) (hd : Vals dvs ds) (hx : Passes CX X E)
    (hdb : (x == ("__debug__" : Str)) = false := by decide) : PE X (.Call (.Name x p) [] [] pos) (tCall sp dvs E tNil) := by
  intro pins s σ H Q I h
  refine wpAny_Call_Name_kw (ld_glob I hg hm ?_ hdb)
  exact PySem.W.callWith_K0 I.kIn hk (run_fn (us := []) F hr hb hd hx I .nil h)

/-- what a class must have to be made -/
structure Mk (K : PySem.W.Frag) (C f : Addr) : Prop where
  makes : PySem.W.makesIn K C = true
  init : PySem.W.findIn K (.ref C) "__init__" = some (some (.ref f))
  fn : PySem.W.isFn K (.ref f) = true
  kp : PySem.W.keepIn K (.ref C) = true

theorem run_make {pins : List (Addr × Obj)} {σ : St} {H : Hp} {s : Shared} {Q : VK} {us : List Value} {vs : List V} (M : Mk X.K C f) (F : FnOk X.prog X.w X.K X.mg X.base CX k f fd ps sp) (hr : Room (k + 1) X.A) (hb : Binds X.K fd ps ds) (hd : Vals dvs ds)
    (hx : Passes CX X E) (I : Inv X pins σ H s) (r : Vals vs us)
    (h : ∀ x dx, H x = none → H dx = none → dx ≠ x → sp (.ref x :: (vs ++ dvs)) (upd (upd H dx (.own x)) x (.ins C dx [])) (fun v H2 => v = .non ∧ Q (.ref x) H2) E) :
    wpAny (model X.prog X.w) X.A (call (.ref C) us) (EP X pins σ Q) X.xe s := by
  have hq := h (s.heap.objs.size + 1) s.heap.objs.size (I.hok.fresh (Nat.le_succ _)) (I.hok.fresh (Nat.le_refl _)) (Nat.ne_of_lt (Nat.lt_succ_self _))
  have I2 := Inv.made (C := C) I
  have r2 : Vals (V.ref (s.heap.objs.size + 1) :: (vs ++ dvs)) (Value.ref (s.heap.objs.size + 1) :: (us ++ ds)) := .cons rfl (r.append hd)
  have hl : (Value.ref (s.heap.objs.size + 1) :: us ++ ds).length = ps.length := by
    have e := r2.length
    rw [F.len _ _ _ _ hq] at e
    exact e.symm
  refine wpAny_call (make_map (f := f) I.kIn M.makes M.init (beq_iff_eq.mp M.fn) (codeAny_mono (F.run _ X.stack _ _ ⟨Value.ref (s.heap.objs.size + 1) :: us, []⟩ (Value.ref (s.heap.objs.size + 1) :: (us ++ ds)) _ _ E (hr.make C us [])
    (I2.env0.make C us []) (hb _ (Value.ref (s.heap.objs.size + 1) :: us) I2.kIn hl) r2 hq) fun r s' hq' => ?_))
  cases r with
  | error e => exact hx pins σ _ _ e s' I2 hq'
  | ok fl =>
    cases fl with
    | ret u =>
      obtain ⟨v, H', I3, rv, ev, q3⟩ := I2.after hq'
      subst ev
      exact ⟨rv, ⟨V.ref (s.heap.objs.size + 1), H', I3, rfl, q3⟩⟩
    | next => exact False.elim hq'
    | brk => exact False.elim hq'
    | cont => exact False.elim hq'
theorem pe_make (M : Mk X.K C f) (F : FnOk X.prog X.w X.K X.mg X.base CX k f fd ps sp) (hr : Room (k + 1) X.A) (hg : Gl X x) (hm : X.mg x = some (.ref C)) (hb : Binds X.K fd ps ds) (hd : Vals dvs ds) (hx : Passes CX X E)
    (ha : PA X (e :: es) t) (hdb : (x == ("__debug__" : Str)) = false := by decide) (he : starEach (e :: es) X.env = (false, eval e X.env) :: starEach es X.env := by rfl) (hpl : (backTo pos (starEach es X.env)).any (·.1) = false := by rfl) :
    PE X (.Call (.Name x p) (e :: es) [] pos) (tMake C sp dvs E t) := by
  intro pins s σ H Q I h
  refine wpAny_Call_Name_kw (ld_glob I hg hm ?_ hdb)
  refine PySem.W.callWith_K (h₀ := X.base) I.ok.mod.kin M.kp (thn (ha pos pins s σ H _ I h) fun us s1 ⟨vs, H1, I1, r, q⟩ => ⟨I1.kIn, ?_⟩) he hpl
  exact run_make M F hr hb hd hx I1 r q
end

/-! ### keywords -/
section
variable {X : Cx} {CX : CXT} {k : Nat} {f C : Addr} {fd : FuncData} {ps ks : List Str} {sp : Sp} {E : XK} {x m : Str} {p pos apos kpos : Pos} {e o : Expr} {es : List Expr} {kws : List Keyword} {te ta : TE} {t tk : TA} {nm : Option Str}
/-- how a call with keywords binds: g puts the positional values us and the keywords' values ws (names ks) in the parameters' order, defaults among them -/
structure KBinds (K : PySem.W.Frag) (fd : FuncData) (ps ks : List Str) (g : List Value → List Value → List Value) (gV : List V → List V → List V) : Prop where
  to : ∀ (s : Shared) (us ws : List Value), K.In s.heap → (g us ws).length = ps.length → BindsTo s fd ⟨us, ks.zip ws⟩ (ps.zip (g us ws))
  rel : ∀ {vs : List V} {us : List Value} {zs : List V} {ws : List Value}, Vals vs us → Vals zs ws → Vals (gV vs zs) (g us ws)
variable {g : List Value → List Value → List Value} {gV : List V → List V → List V}
end

/-! ### a def's body keeps its promise -/
/-- names: the parameters first -/
structure FnScope (N P : List Str) (sc : Scope) : Prop where
  kind : sc.kind = .function
  co : sc.isCoroutine = false
  gen : sc.isGenerator = false
  nd : N.Nodup
  pre : N.take P.length = P
  par : ∀ x ∈ P, sc.names.lookup x = some .local ∨ sc.names.lookup x = some .cell
  nofree : ∀ y ∈ sc.names, y.2 ≠ .free

theorem bindL_out {kindOf : Str → Option NameKind} {x : Str} : ∀ {binds : List (Str × Value)} {m : Str → Option Value}, (∀ v, (x, v) ∉ binds) → bindL kindOf binds m x = m x
  | [], _, _ => rfl
  | (n, v) :: r, m, h => by
    unfold bindL
    rw [bindL_out fun w hw => h w (List.mem_cons_of_mem _ hw)]
    split
    · have : x ≠ n := by rintro rfl; exact h v List.mem_cons_self
      simp [this]
    · rfl
theorem bindC_out {kindOf : Str → Option NameKind} {x : Str} : ∀ {binds : List (Str × Value)} {m : Str → Option Value}, (∀ v, (x, v) ∉ binds) → bindC kindOf binds m x = m x
  | [], _, _ => rfl
  | (n, v) :: r, m, h => by
    unfold bindC
    rw [bindC_out fun w hw => h w (List.mem_cons_of_mem _ hw)]
    split
    · rfl
    · have : x ≠ n := by rintro rfl; exact h v List.mem_cons_self
      simp [this]
theorem bindL_get {kindOf : Str → Option NameKind} {x : Str} {v : Value} : ∀ {P : List Str} {vs : List Value} {i : Nat} {m : Str → Option Value}, P.Nodup → P[i]? = some x → vs[i]? = some v → kindOf x = some .local →
    bindL kindOf (P.zip vs) m x = some v
  | [], _, _, _, _, h, _, _ => by simp at h
  | _ :: _, [], _, _, _, _, h, _ => by simp at h
  | p :: P, w :: vs, 0, m, nd, h1, h2, hk => by
    simp at h1 h2; subst h1; subst h2
    show bindL kindOf ((p, w) :: P.zip vs) m p = _
    unfold bindL
    rw [bindL_out fun v hv => (List.nodup_cons.mp nd).1 (List.of_mem_zip hv).1, if_pos hk]
    simp
  | p :: P, w :: vs, i + 1, m, nd, h1, h2, hk => by
    show bindL kindOf ((p, w) :: P.zip vs) m x = _
    unfold bindL
    exact bindL_get (i := i) (List.nodup_cons.mp nd).2 (by simpa using h1) (by simpa using h2) hk
theorem bindC_get {kindOf : Str → Option NameKind} {x : Str} {v : Value} : ∀ {P : List Str} {vs : List Value} {i : Nat} {m : Str → Option Value}, P.Nodup → P[i]? = some x → vs[i]? = some v → kindOf x ≠ some .local →
    bindC kindOf (P.zip vs) m x = some v
  | [], _, _, _, _, h, _, _ => by simp at h
  | _ :: _, [], _, _, _, _, h, _ => by simp at h
  | p :: P, w :: vs, 0, m, nd, h1, h2, hk => by
    simp at h1 h2; subst h1; subst h2
    show bindC kindOf ((p, w) :: P.zip vs) m p = _
    unfold bindC
    rw [bindC_out fun v hv => (List.nodup_cons.mp nd).1 (List.of_mem_zip hv).1, if_neg hk]
    simp
  | p :: P, w :: vs, i + 1, m, nd, h1, h2, hk => by
    show bindC kindOf ((p, w) :: P.zip vs) m x = _
    unfold bindC
    exact bindC_get (i := i) (List.nodup_cons.mp nd).2 (by simpa using h1) (by simpa using h2) hk

/-- the names' values at the entry -/
def start (N : List Str) (vs : List V) : St := vs.map some ++ List.replicate (N.length - vs.length) none

/-- the context of a def's body, at its entry; an exception leaves the frame, then lies as CX says -/
def cxOf (CX : CXT) (P : Program) (w : World) (K : PySem.W.Frag) (mg : Str → Option Value) (base : Heap) (N : List Str) (qual : Str) (scope : Scope) (f : Addr) (cd : Value) (A : Around) (outer : List Env) (s : Shared) (H : Hp) (E : XK) : Cx where
  prog := P
  w := w
  K := K
  mg := mg
  base := base
  A := A.deeper (envOfC qual scope s.heap.objs.size f cd)
  N := N
  s₀ := s
  H₀ := H
  env := envOfC qual scope s.heap.objs.size f cd
  outer := outer
  stack := envOfC qual scope s.heap.objs.size f cd :: outer
  ex := []
  calm := true
  fn := fun _ => true
  pn := []
  xe := fun e s' => wpAny (model P w) (A.deeper (envOfC qual scope s.heap.objs.size f cd)) (leaving (envOfC qual scope s.heap.objs.size f cd) e) (fun _ s'' => CX outer H s E e s'') (fun e' s'' => CX outer H s E e' s'') s'

theorem cell_has {sc : Scope} {n : Nat} {x : Str} (h : sc.names.lookup x = some .cell) : ∃ c, (cellsFrom n sc.names []).lookup x = some c := by
  have q := PySem.W.cellsFrom_some sc.names n [] (.inl h)
  exact Option.isSome_iff_exists.mp q

theorem inv_start {CX : CXT} {P : Program} {w : World} {K : PySem.W.Frag} {mg : Str → Option Value} {base : Heap} {N ps : List Str} {qual : Str} {scope : Scope} {f : Addr} {cd : Value} {A : Around} {outer : List Env} {s s1 : Shared} {H : Hp} {E : XK} {us : List Value} {vs : List V}
    (S : FnScope N ps scope) (hd : A.handled = none) (e0 : Env0 P w K mg base A outer s H) (hl : vs.length = ps.length) (r : Vals vs us)
    (x : InCallC s s.heap.objs.size (bindL (envOfC qual scope s.heap.objs.size f cd).kindOf (ps.zip us) fun _ => none) (cellsFrom (s.heap.objs.size + 1) scope.names []) (bindC (envOfC qual scope s.heap.objs.size f cd).kindOf (ps.zip us) fun _ => none) s1) :
    Inv (cxOf CX P w K mg base N qual scope f cd A outer s H E) [] (start N vs) H s1 := by
  have hpl : ps.length ≤ N.length := by have := congrArg List.length S.pre; rw [List.length_take] at this; omega
  obtain ⟨h1, tk, rfl, hk⟩ := x.done
  have noA : ∀ b : Addr, b ∉ (cxOf CX P w K mg base N qual scope f cd A outer s H E).ex := fun b z => absurd (show b ∈ ([] : List Addr) from z) (by simp)
  refine ⟨⟨e0.mod, S.kind, rfl, rfl, Nat.le_refl _, fun y z c h1 h2 => ?_, fun y hy => ?_, fun y c _ h => ?_, fun _ => hd, Around.frames_deeper e0.frames, .inr ⟨rfl, rfl⟩, fun b z => absurd z (noA b), e0.bs, e0.bsz, fun b _ _ => noA b, fun b z => absurd z (noA b), e0.funs, e0.frf⟩,
    rfl, e0.bare, Un.kept hk, ⟨_, x.toInCall.ns, fun i y v h1 h2 h3 => ?_⟩, fun y c h => ⟨_, x.cell y c h⟩, e0.hok.fresh (Nat.le_refl _), fun y c h => ?_, fun p hp => absurd (show p ∈ ([] : List (Addr × Obj)) from hp) (by simp), e0.hok.kept hk, ?_⟩
  · exact name_of_addr x.apart (PySem.mem_of_lookup h1) (PySem.mem_of_lookup h2)
  · have hy : scope.names.lookup y = some .cell ∨ scope.names.lookup y = some .free := hy
    rcases hy with hy | hy
    · exact cell_has hy
    · exact absurd rfl (S.nofree _ (PySem.mem_of_lookup hy))
  · exact Nat.le_of_lt (x.above y c (PySem.mem_of_lookup h))
  · have hi : i < vs.length := by
      unfold start at h2
      by_cases hi : i < vs.length
      · exact hi
      · rw [List.getElem?_append_right (by simpa using hi)] at h2
        rw [List.getElem?_replicate] at h2
        split at h2 <;> cases h2
    have ha : vs[i]? = some v := by
      unfold start at h2
      rw [List.getElem?_append_left (by simpa using hi), List.getElem?_map] at h2
      cases e : vs[i]? with
      | none => rw [e] at h2; cases h2
      | some a => rw [e] at h2; cases h2; rfl
    obtain ⟨u, hu, rv⟩ := r.get ha
    have hp : ps[i]? = some y := by
      rw [← S.pre, List.getElem?_take_of_lt (by omega)]; exact h1
    have ndP : ps.Nodup := by rw [← S.pre]; exact S.nd.sublist (List.take_sublist _ _)
    refine ⟨u, rv, ?_⟩
    rcases S.par y (List.mem_of_getElem? hp) with k | k
    · exact .inl ⟨k, bindL_get ndP hp hu k⟩
    · obtain ⟨c, e⟩ := cell_has (n := s.heap.objs.size + 1) k
      refine .inr ⟨.inl k, c, e, ?_⟩
      have q := x.cell y c e
      rw [bindC_get ndP hp hu (by show scope.names.lookup y ≠ _; rw [k]; decide)] at q
      exact q
  · exact e0.hok.fresh (Nat.le_of_lt (x.above y c (PySem.mem_of_lookup h)))
  · unfold start
    show _ = N.length
    rw [List.length_append, List.length_map, List.length_replicate]
    omega

/-- THE RULE: a def (or a method) of the text, by its body. The body's reading t is chosen for each entry; it is run at the parameters' values -/
theorem fn_of {CX : CXT} {P : Program} {w : World} {K : PySem.W.Frag} {mg : Str → Option Value} {base : Heap} {k : Nat} {f : Addr} {name qual : Str} {params : Arguments} {body : List Stmt} {scope : Scope} {dV kV doc pm cdv ct oc : Value} {an od : Option Addr}
    {osl : Array (Option Value)} {N ps : List Str} {sp : Sp} (lk : K.lookup f = some ⟨oc, od, .func (PySem.W.fnOf name qual params body scope dV kV doc pm an cdv ct), osl⟩) (hcd : PySem.W.codeIn K cdv qual = true) (S : FnScope N ps scope)
    (len : ∀ vs H Q E, sp vs H Q E → vs.length = ps.length)
    (hbody : ∀ (A : Around) (outer : List Env) (s : Shared) (H : Hp) (vs : List V) (Q : VK) (E : XK), Room k (A.deeper (envOfC qual scope s.heap.objs.size f cdv)) → sp vs H Q E →
      ∃ t, PSs (cxOf CX P w K mg base N qual scope f cdv A outer s H E) body t ∧ t { nx := fun _ H' => Q .non H', rt := Q } (start N vs) H) :
    FnOk P w K mg base CX (k + 1) f (PySem.W.fnOf name qual params body scope dV kV doc pm an cdv ct) ps sp := by
  refine ⟨len, fun A outer s H args us vs Q E hr e0 hb r hsp => ?_⟩
  have hl := len _ _ _ _ hsp
  have KX : K.In s.heap := e0.mod.kin.keeps fun b o e => (e0.bs b o e).1
  have lim : s.heap.NoLimit := e0.mod.nolimit.keeps fun b o e => (e0.bs b o e).1
  have hkind : ∀ y ∈ ps.zip us, scope.names.lookup y.1 = some .local ∨ (scope.names.lookup y.1 = some .cell ∧ ((cellsFrom (s.heap.objs.size + 1) scope.names []).lookup y.1).isSome = true) := fun ⟨n, v⟩ hy => by
    rcases S.par n (List.of_mem_zip hy).1 with q | q
    · exact .inl q
    · exact .inr ⟨q, PySem.W.cellsFrom_some _ _ _ (.inl q)⟩
  refine codeAny_call_function hr.depth (KX _ _ lk) rfl S.co S.gen rfl (PySem.W.codeRec_of KX hcd) (hb _ _ _ _ ?_)
  refine wpAny_newFunctionEnv_cells S.kind hkind fun env he s1 x => ?_
  subst he
  refine ⟨lim.keeps x.toInCall.keep, codeAny_func ?_⟩
  obtain ⟨t, ht, hq⟩ := hbody A outer s H vs Q E (hr.deeper _) hsp
  have I : Inv (cxOf CX P w K mg base N qual scope f cdv A outer s H E) [] (start N vs) H s1 := inv_start S hr.hd e0 hl r x
  refine wpAny_mono (ht [] s1 (start N vs) H _ I hq) (fun fl s' hs => ?_) fun e s' hs => hs
  have fin : ∀ {σ' : St} {H' : Hp} {v : V} {u : Value}, Inv (cxOf CX P w K mg base N qual scope f cdv A outer s H E) [] σ' H' s' → RelV v u → Q v H' → CE outer P w H s Q u s' :=
    fun {σ' H' v u} J rv q => ⟨v, H', J.os, J.bare, J.base, J.hok, rv, q⟩
  cases fl with
  | ret u =>
    obtain ⟨v, σ', H', J, rv, q⟩ := hs
    exact fin J rv q
  | next =>
    obtain ⟨σ', H', J, q⟩ := hs
    exact fin (v := V.non) (u := Value.none) J rfl q
  | brk =>
    obtain ⟨_, _, _, q⟩ := hs
    exact False.elim q
  | cont =>
    obtain ⟨_, _, _, q⟩ := hs
    exact False.elim q
end L2

namespace L2
open PySem PySem.Spec PyProof.Rows
section
variable {X : Cx} {x : Str} {p pos : Pos} {e : Expr} {es : List Expr} {t : TA} {id T : String} {r : List V → Hp → VK → Prop}

def tCB (r : List V → Hp → VK → Prop) (t : TA) : TE := fun σ H Q => t σ H fun vs H1 => r vs H1 Q
/-- f(e, ..), f a built-in function -/
theorem pe_callB (hc : CallR X (.builtin id) r) (hg : Gl X x) (hm : X.mg x = none) (hv : bootBuiltins x = some (.builtin id)) (ha : PA X (e :: es) t) (hn : x ≠ "__name__" := by decide) (hdb : (x == ("__debug__" : Str)) = false := by decide)
    (he : starEach (e :: es) X.env = (false, eval e X.env) :: starEach es X.env := by rfl) (hpl : (backTo pos (starEach es X.env)).any (·.1) = false := by rfl) : PE X (.Call (.Name x p) (e :: es) [] pos) (tCB r t) := by
  intro pins s σ H Q I h
  refine wpAny_Call_Name_kw (ld_blt I hg hm hv ?_ hn hdb)
  exact PyProof.Rows.callWith_builtin1 (thn (ha pos pins s σ H _ I h) fun us s1 ⟨vs, H1, I1, r1, q1⟩ => hc pins s1 σ H1 vs us Q I1 r1 q1) he hpl
/-- T(e, ..), T a built-in type -/
theorem pe_callTy (hc : CallR X (.type T) r) (hg : Gl X x) (hm : X.mg x = none) (hv : bootBuiltins x = some (.type T)) (ha : PA X (e :: es) t) (hn : x ≠ "__name__" := by decide) (hdb : (x == ("__debug__" : Str)) = false := by decide)
    (he : starEach (e :: es) X.env = (false, eval e X.env) :: starEach es X.env := by rfl) (hpl : (backTo pos (starEach es X.env)).any (·.1) = false := by rfl) : PE X (.Call (.Name x p) (e :: es) [] pos) (tCB r t) := by
  intro pins s σ H Q I h
  refine wpAny_Call_Name_kw (ld_blt I hg hm hv ?_ hn hdb)
  exact PyProof.Rows.callWith_type1 (thn (ha pos pins s σ H _ I h) fun us s1 ⟨vs, H1, I1, r1, q1⟩ => hc pins s1 σ H1 vs us Q I1 r1 q1) he hpl
end
end L2

namespace HT
open PySem PyProof.Rows

section
open PySem.SeqAt
open PySem.AutoSeq1 (wpAny_loadPart')
open PySem.MeetsSeq PySem.MeetsSeq2 PySem.MeetsSeq3

end

section
variable {prog : Program} {w : World} {A : Around} {E : Value → Shared → Prop} {s : Shared}

/-! ### t[a:b], not the whole -/
/-- a slice's bound as a place among n (d where it is left out) -/
def sIx (n d : Nat) : Option Int → Nat
  | none => d
  | some v => if v < 0 then (v + (n : Int)).toNat else min v.toNat n
theorem sIx_le (n d : Nat) (hd : d ≤ n) (o : Option Int) : sIx n d o ≤ n := by
  cases o with
  | none => exact hd
  | some v =>
    show (if v < 0 then (v + (n : Int)).toNat else min v.toNat n) ≤ n
    by_cases hv : v < 0
    · rw [if_pos hv]; omega
    · rw [if_neg hv]; exact Nat.min_le_right _ _
theorem clip_eq (v : Int) (n d : Nat) : (if v < 0 then max (v + (n : Int)) 0 else min v (n : Int)) = ((sIx n d (some v) : Nat) : Int) := by
  show (if v < 0 then max (v + (n : Int)) 0 else min v (n : Int)) = (((if v < 0 then (v + (n : Int)).toNat else min v.toNat n) : Nat) : Int)
  by_cases hv : v < 0
  · simp only [if_pos hv]; omega
  · simp only [if_neg hv]; omega
theorem adjust_gen (lo hi : Option Int) (n : Nat) : Builtin.Slice.sliceAdjust lo hi 1 (n : Int) = (((sIx n 0 lo : Nat) : Int), ((sIx n n hi : Nat) : Int)) := by
  have h1 : ¬ ((1 : Int) < 0) := by omega
  unfold Builtin.Slice.sliceAdjust
  simp only [h1, if_false]
  refine Prod.ext ?_ ?_
  · cases lo with
    | none => rfl
    | some v => exact clip_eq v n 0
  · cases hi with
    | none => rfl
    | some v => exact clip_eq v n n
theorem places_gen (i j : Nat) : Builtin.Slice.slicePlaces (i : Int) (j : Int) 1 = j - i := by
  unfold Builtin.Slice.slicePlaces
  have h1 : (1 : Int) > 0 := by omega
  simp only [h1, if_true, Int.ediv_one]
  split <;> omega
theorem slicePart_ {v : Value} {o : Option Int} {Q : Option Int → Shared → Prop} (p : IsPart v o) (h : Q o s) : wpAny (model prog w) A (Builtin.Slice.slicePartIndex v) Q E s := by
  cases p with
  | none => exact slicePart_none h
  | int i t => exact slicePart_int h
theorem sliceApplied_gen {sl : Addr} {vl vu : Value} {lo hi : Option Int} {n : Nat} {Q : Int × Int × Nat → Shared → Prop} (hs : s.heap.IsSliceOf sl vl vu .none) (pl : IsPart vl lo) (pu : IsPart vu hi)
    (h : Q (((sIx n 0 lo : Nat) : Int), 1, sIx n n hi - sIx n 0 lo) s) : wpAny (model prog w) A (Builtin.Slice.sliceApplied (.ref sl) (pure (n : Int))) Q E s := by
  obtain ⟨os, hos, hcs, hds⟩ := id hs
  unfold Builtin.Slice.sliceApplied Builtin.Slice.sliceFields
  refine wpAny_bind (wpAny_bind (wpAny_field hos hds (x := vl) rfl (wpAny_bind (wpAny_field hos hds (x := vu) rfl (wpAny_bind (wpAny_field hos hds (x := .none) rfl (wpAny_pure ?_)))))))
  refine wpAny_bind (slicePart_none ?_)
  show wpAny _ _ (if ((1 : Int) == 0) = true then _ else _) _ _ s
  rw [if_neg (by decide)]
  refine wpAny_bind (slicePart_ pl (wpAny_bind (slicePart_ pu (wpAny_bind (wpAny_pure ?_)))))
  show wpAny _ _ (match Builtin.Slice.sliceAdjust lo hi 1 (n : Int) with | (lo, hi) => pure (lo, (1 : Int), Builtin.Slice.slicePlaces lo hi 1)) _ _ s
  rw [adjust_gen lo hi n]
  show wpAny _ _ (pure (((sIx n 0 lo : Nat) : Int), (1 : Int), Builtin.Slice.slicePlaces ((sIx n 0 lo : Nat) : Int) ((sIx n n hi : Nat) : Int) 1)) _ _ s
  rw [places_gen]
  exact wpAny_pure h
theorem pick_gen (xs : Array Value) (i k : Nat) : ((List.range k).filterMap fun (m : Nat) => xs[((i : Int) + (m : Int) * 1).toNat]?).toArray = ((xs.toList.drop i).take k).toArray := by
  have e : (fun (m : Nat) => xs[((i : Int) + (m : Int) * 1).toNat]?) = fun m => xs[i + m]? := by
    funext m
    have : ((i : Int) + (m : Int) * 1).toNat = i + m := by omega
    rw [this]
  rw [e]
  have := pick_run xs i k
  rw [List.filterMap_map] at this
  have e2 : ((fun x => xs[x]?) ∘ fun x => i + x) = fun m => xs[i + m]? := rfl
  rw [e2] at this
  rw [this]

theorem getItem_tuple_cut {t sl : Addr} {items : Array Value} {vl vu : Value} {lo hi : Option Int} {Q : Value → Shared → Prop} (ht : IsTup s.heap t items) (hs : s.heap.IsSliceOf sl vl vu .none) (pl : IsPart vl lo) (pu : IsPart vu hi)
    (hw : ¬ (sIx items.size 0 lo = 0 ∧ sIx items.size items.size hi = items.size))
    (h : Q (.ref s.heap.objs.size) { s with heap := s.heap.push { cls := .type "tuple", data := .seq ((items.toList.drop (sIx items.size 0 lo)).take (sIx items.size items.size hi - sIx items.size 0 lo)).toArray } })
    (hsz : items.size ≤ sizeLine) : wpAny (model prog w) A (getItem (.ref t) (.ref sl)) Q E s := by
  have htake : sizeOk (.seq ((items.toList.drop (sIx items.size 0 lo)).take (sIx items.size items.size hi - sIx items.size 0 lo)).toArray) := by
    show ((items.toList.drop (sIx items.size 0 lo)).take (sIx items.size items.size hi - sIx items.size 0 lo)).toArray.size ≤ sizeLine
    rw [List.size_toArray, List.length_take, List.length_drop, Array.length_toList]
    omega
  have hj : sIx items.size items.size hi ≤ items.size := sIx_le _ _ (Nat.le_refl _) hi
  obtain ⟨os, hos, hcs, hds⟩ := id hs
  have hTs : s.TypeIs (.ref sl) "slice" := ⟨os, hos, hcs⟩
  unfold getItem
  try with_reducible refine wpAny_holding ?_
  first | refine wpAny_bind (wpAny_pure ?_) | skip
  refine wpAny_bind (wpAny_sequenceKey ht.typeIs (by decide) ?_)
  refine wpAny_bind (wpAny_callSpecial?_slot (name := Str.ofString "__getitem__") ht.typeIs PyProof.Rows.slot_tuple_getitem
    (wpAny_call_entry PyProof.Rows.slot_tuple_getitem ht.typeIs entry_tuple_getitem ?_ (args_tuple_getitem _ _)))
  show wpAny _ _ (Builtin.Tuple.tupleItemsOf (.ref t) >>= _) _ _ s
  refine wpAny_bind (tupleItemsOf_ ht ?_)
  refine wpAny_bind (wpAny_typeOf hTs ?_)
  rw [if_pos (by decide)]
  refine wpAny_bind (sliceApplied_gen hs pl pu ?_)
  have hno : ¬ ((((sIx items.size 0 lo : Nat) : Int) == 0 && (1 : Int) == 1 && (sIx items.size items.size hi - sIx items.size 0 lo) == items.size) = true) := by
    intro q
    rw [Bool.and_eq_true, Bool.and_eq_true] at q
    have q1 : ((sIx items.size 0 lo : Nat) : Int) = 0 := eq_of_beq q.1.1
    have q2 : sIx items.size items.size hi - sIx items.size 0 lo = items.size := eq_of_beq q.2
    exact hw ⟨by omega, by omega⟩
  show wpAny _ _ (if (((sIx items.size 0 lo : Nat) : Int) == 0 && (1 : Int) == 1 && (sIx items.size items.size hi - sIx items.size 0 lo) == items.size) = true then _ else _) _ _ s
  rw [if_neg hno, pick_gen]
  first
    | exact wpAny_bind (m := Builtin.Tuple.tupleExact _) (wpAny_newObj_type (wpAny_pure ⟨_, rfl, wpAny_pure h⟩) htake)
    | exact wpAny_bind (m := Builtin.Tuple.tupleExact _) (wpAny_newObj_type (wpAny_bind (wpAny_pure (wpAny_pure ⟨_, rfl, wpAny_pure h⟩))) htake)
    | exact wpAny_bind (wpAny_bind (m := Builtin.Tuple.tupleExact _) (wpAny_newObj_type (wpAny_pure (wpAny_pure ⟨_, rfl, wpAny_pure h⟩)) htake))
    | exact wpAny_bind (wpAny_bind (m := Builtin.Tuple.tupleExact _) (wpAny_newObj_type (wpAny_pure ⟨_, rfl, wpAny_pure h⟩) htake))
end
end HT

namespace L2
open PySem PySem.Spec PyProof.Rows

/-! ### the parts of a slice -/
abbrev TO := St → Hp → (Option Int → Hp → Prop) → Prop
/-- a slice's part (left out, or an int) -/
def PO (X : Cx) (e : Option Expr) (t : TO) : Prop :=
  ∀ (pins : List (Addr × Obj)) (s : Shared) (σ : St) (H : Hp) (Q : Option Int → Hp → Prop), Inv X pins σ H s → t σ H Q →
    wpAny (model X.prog X.w) X.A (evalPart e X.env) (fun u s' => ∃ o H', Inv X pins σ H' s' ∧ IsPart u o ∧ Q o H') X.xe s
def tNoPart : TO := fun _ H Q => Q none H
def tPart (t : TE) : TO := fun σ H Q => t σ H fun x H1 => ∃ i, x = .int i ∧ Q (some i) H1

section
variable {X : Cx} {e : Expr} {te : TE} {lo hi : Option Expr} {tl th : TO} {pos p2 : Pos}

theorem po_none : PO X none tNoPart := by
  intro pins s σ H Q I h
  rw [evalPart_none]
  exact wpAny_pure ⟨none, H, I, .none, h⟩
theorem po_some (h : PE X e te) : PO X (some e) (tPart te) := by
  intro pins s σ H Q I hw
  rw [evalPart_some]
  refine thn (h pins s σ H _ I hw) fun u s1 ⟨x, H1, I1, r1, q1⟩ => ?_
  obtain ⟨i, rfl, q⟩ := q1
  obtain ⟨t, rfl⟩ := r1
  exact ⟨some i, H1, I1, .int i t, q⟩

/-- what a slice of a value is, by values: the slice object stands at sl -/
def SlR (X : Cx) (r : V → Option Int → Option Int → Hp → VK → Prop) : Prop :=
  ∀ (pins : List (Addr × Obj)) (s : Shared) (σ : St) (H : Hp) (x : V) (v vl vu : Value) (lo hi : Option Int) (sl : Addr) (Q : VK), Inv X pins σ H s → RelV x v → s.heap.IsSliceOf sl vl vu .none → IsPart vl lo → IsPart vu hi → r x lo hi H Q →
    ∃ T id, typeLookup (.type T) "__getitem__" = pure (some (.builtin id)) ∧ s.TypeIs v T ∧ wpAny (model X.prog X.w) X.A (getItem v (.ref sl)) (EP X pins σ Q) X.xe s
theorem SlR.or {r r' : V → Option Int → Option Int → Hp → VK → Prop} (h : SlR X r) (h' : SlR X r') : SlR X (fun x lo hi H Q => r x lo hi H Q ∨ r' x lo hi H Q) := by
  intro pins s σ H x v vl vu lo hi sl Q I rx hs pl pu q
  rcases q with q | q
  · exact h pins s σ H x v vl vu lo hi sl Q I rx hs pl pu q
  · exact h' pins s σ H x v vl vu lo hi sl Q I rx hs pl pu q
def tSl (r : V → Option Int → Option Int → Hp → VK → Prop) (te : TE) (tl th : TO) : TE := fun σ H Q => te σ H fun x H1 => tl σ H1 fun l H2 => th σ H2 fun u H3 => r x l u H3 Q
/-- a[lo:hi], any a -/
theorem pe_slice {r : V → Option Int → Option Int → Hp → VK → Prop} (hr : SlR X r) (he : PE X e te) (hl : PO X lo tl) (hu : PO X hi th) : PE X (.Subscript e (.Slice lo hi none p2) pos) (tSl r te tl th) := by
  intro pins s σ H Q I h
  refine Subscript_ (thn (he pins s σ H _ I h) fun v s1 ⟨x, H1, I1, r1, q1⟩ => ?_)
  refine wpAny_Slice (thn (hl pins s1 σ H1 _ I1 q1) fun vl s2 ⟨l, H2, I2, pl, q2⟩ => thn (hu pins s2 σ H2 _ I2 q2) fun vu s3 ⟨u, H3, I3, pu, q3⟩ => ?_)
  rw [evalPart_none]
  refine wpAny_pure ?_
  have I4 : Inv X pins σ H3 { s3 with heap := s3.heap.push { cls := .type "slice", data := .fields #[vl, vu, .none] } } := I3.kept (t' := s3.toks) fun b ob q => Heap.get?_push_of_some _ q
  obtain ⟨T, id, hT, ht, hg⟩ := hr pins { s3 with heap := s3.heap.push { cls := .type "slice", data := .fields #[vl, vu, .none] } } σ H3 x v vl vu l u s3.heap.objs.size Q I4 r1 (Heap.IsSliceOf.new ..) pl pu q3
  show wpAny (model X.prog X.w) X.A (subscriptTail e (.Slice lo hi none p2) v (.ref s3.heap.objs.size)) (EP X pins σ Q) X.xe { s3 with heap := s3.heap.push { cls := .type "slice", data := .fields #[vl, vu, .none] } }
  exact tail_any (ops := [.ref s3.heap.objs.size, v]) ht hT hg (by with_unfolding_all rfl)

/-- the items of xs[lo:hi] -/
def cutV (xs : List V) (lo hi : Option Int) : List V := (xs.drop (HT.sIx xs.length 0 lo)).take (HT.sIx xs.length xs.length hi - HT.sIx xs.length 0 lo)
theorem cutV_length (xs : List V) (lo hi : Option Int) : (cutV xs lo hi).length ≤ xs.length := by
  unfold cutV
  rw [List.length_take, List.length_drop]
  omega
/-- t[lo:hi], not the whole of it (the whole would be t itself) -/
def rSlT (K : PySem.W.Frag) : V → Option Int → Option Int → Hp → VK → Prop := fun x lo hi H Q => ∃ a xs, x = .ref a ∧ SqT K H a xs ∧
  ¬ (HT.sIx xs.length 0 lo = 0 ∧ HT.sIx xs.length xs.length hi = xs.length) ∧ ∀ p, H p = none → Q (.ref p) (upd H p (.tup (cutV xs lo hi)))
theorem sl_tup : SlR X (rSlT X.K) := by
  intro pins s σ H x v vl vu lo hi sl Q I rx hs pl pu h
  obtain ⟨a, xs, rfl, hx, hw, q⟩ := h
  cases rx
  obtain ⟨its, r, ht, hz⟩ := I.tuple hx
  have hlen : its.toArray.size = xs.length := by rw [List.size_toArray]; exact r.length.symm
  refine ⟨"tuple", _, PyProof.Rows.slot_tuple_getitem.lookup, ht.typeIs, ?_⟩
  refine HT.getItem_tuple_cut ht hs pl pu (by rw [hlen]; exact hw) ?_ (by rw [hlen]; exact hz)
  rw [hlen]
  refine ⟨.ref s.heap.objs.size, _, I.laid (t' := s.toks) (o := .tup (cutV xs lo hi)) (fun b ob q => Heap.get?_push_of_some _ q) (Nat.le_refl _) ?_, rfl, q _ (I.hok.fresh (Nat.le_refl _))⟩
  exact ⟨Nat.le_trans (cutV_length xs lo hi) hz, _, (r.drop (HT.sIx xs.length 0 lo)).take (HT.sIx xs.length xs.length hi - HT.sIx xs.length 0 lo), IsTup.new _ _⟩

/-! ### t < u, t + u -/
end
end L2

namespace L2
open PySem PySem.Spec PyProof.Rows

/-! ### places -/
/-- the place that an index of any sign means -/
def ixN (n : Nat) (i : Int) : Option Nat := if 0 ≤ i then (if i < n then some i.toNat else none) else if -(n : Int) ≤ i then some (i + n).toNat else none
def atI {α : Type} (xs : List α) (i : Int) : Option α := (ixN xs.length i).bind fun j => xs[j]?
theorem ixN_seq {n : Nat} {i : Int} {j : Nat} (h : ixN n i = some j) : seqIndex? i n = some j ∧ j < n ∧ -(n : Int) ≤ i ∧ i < n := by
  unfold ixN at h
  by_cases h0 : 0 ≤ i
  · rw [if_pos h0] at h
    by_cases h1 : i < n
    · rw [if_pos h1] at h
      have e : i.toNat = j := Option.some.inj h
      exact ⟨by rw [seqIndex_of h0 h1, e], by omega, by omega, h1⟩
    · rw [if_neg h1] at h; cases h
  · rw [if_neg h0] at h
    by_cases h1 : -(n : Int) ≤ i
    · rw [if_pos h1] at h
      have e : (i + n).toNat = j := Option.some.inj h
      exact ⟨by rw [seqIndex_neg (by omega) h1, e], by omega, h1, by omega⟩
    · rw [if_neg h1] at h; cases h
theorem atI_get {α : Type} {xs : List α} {i : Int} {v : α} (h : atI xs i = some v) : ∃ j, seqIndex? i xs.length = some j ∧ xs[j]? = some v ∧ j < xs.length ∧ -(xs.length : Int) ≤ i ∧ i < xs.length := by
  unfold atI at h
  cases e : ixN xs.length i with
  | none => rw [e] at h; cases h
  | some j =>
    rw [e] at h
    obtain ⟨h1, h2, h3, h4⟩ := ixN_seq e
    exact ⟨j, h1, h, h2, h3, h4⟩
theorem atI_nat {α : Type} {xs : List α} {j : Nat} {v : α} (h : xs[j]? = some v) : atI xs (j : Int) = some v := by
  have hj : j < xs.length := (List.getElem?_eq_some_iff.mp h).1
  have e : ixN xs.length (j : Int) = some j := by
    unfold ixN
    rw [if_pos (by omega), if_pos (by omega)]; simp
  unfold atI; rw [e]; exact h
/-! ### what may be subscripted -/
/-- what stands as an index of a plain subscript -/
def PlainIx (b : Expr) : Prop := ∀ o i, subscripted b false o i = operate [o, i] (getItem o i)
/-- a subscript by values -/
def IxR (X : Cx) (r : R2) : Prop :=
  ∀ (value slice : Expr) (pins : List (Addr × Obj)) (s : Shared) (σ : St) (H : Hp) (x y : V) (v u : Value) (Q : VK), Inv X pins σ H s → RelV x v → RelV y u → r x y H Q →
    subscripted slice false v u = operate [v, u] (getItem v u) → wpAny (model X.prog X.w) X.A (subscriptTail value slice v u) (EP X pins σ Q) X.xe s
/-- a call of a builtin's method by values: the receiver, the arguments -/
def MtR (X : Cx) (id : String) (r : V → List V → Hp → VK → Prop) : Prop :=
  ∀ (pins : List (Addr × Obj)) (s : Shared) (σ : St) (H : Hp) (x : V) (xs : List V) (v : Value) (us : List Value) (Q : VK), Inv X pins σ H s → RelV x v → Vals xs us → r x xs H Q →
    wpAny (model X.prog X.w) X.A (call (.builtin id) (v :: us)) (EP X pins σ Q) X.xe s
section
variable {X : Cx} {a b : Expr} {ta tb : TE} {pos : Pos}
theorem IxR.or {r r' : R2} (h : IxR X r) (h' : IxR X r') : IxR X (fun x y H Q => r x y H Q ∨ r' x y H Q) := by
  intro value slice pins s σ H x y v u Q I rx ry q hs
  rcases q with q | q
  · exact h value slice pins s σ H x y v u Q I rx ry q hs
  · exact h' value slice pins s σ H x y v u Q I rx ry q hs
theorem MtR.or {id : String} {r r' : V → List V → Hp → VK → Prop} (h : MtR X id r) (h' : MtR X id r') : MtR X id (fun x xs H Q => r x xs H Q ∨ r' x xs H Q) := by
  intro pins s σ H x xs v us Q I rx rs q
  rcases q with q | q
  · exact h pins s σ H x xs v us Q I rx rs q
  · exact h' pins s σ H x xs v us Q I rx rs q
/-- a[b] -/
theorem pe_ix {r : R2} (hr : IxR X r) (ha : PE X a ta) (hb : PE X b tb) (hs : PlainIx b) : PE X (.Subscript a b pos) (tOp r ta tb) := by
  intro pins s σ H Q I h
  exact Subscript_ (binT ha hb I h fun v u s2 x y H2 I2 rx ry q => hr a b pins s2 σ H2 x y v u Q I2 rx ry q (hs _ _))

def rIxL (K : PySem.W.Frag) : R2 := fun x y H Q => ∃ p xs i v, x = .ref p ∧ y = .int i ∧ SqL K H p xs ∧ atI xs i = some v ∧ Q v H
def rIxT (K : PySem.W.Frag) : R2 := fun x y H Q => ∃ p xs i v, x = .ref p ∧ y = .int i ∧ SqT K H p xs ∧ atI xs i = some v ∧ Q v H
theorem ix_list : IxR X (rIxL X.K) := by
  intro value slice pins s σ H x y v u Q I rx ry h hs
  obtain ⟨p, xs, i, z, rfl, rfl, hq, he, q⟩ := h
  cases rx
  obtain ⟨t, rfl⟩ := ry
  obtain ⟨its, r, pl, hz⟩ := I.list hq
  obtain ⟨j, h1, h2, h3, h4, h5⟩ := atI_get he
  obtain ⟨w, ew, rw'⟩ := r.get h2
  have hl := r.length
  have hn := line63
  have fin : EP X pins σ Q w s := ⟨z, H, I, rw', q⟩
  by_cases h0 : 0 ≤ i
  · have hj : i.toNat = j := by
      rw [seqIndex_of h0 h5] at h1
      exact Option.some.inj h1
    exact item_listR pl.isList h0 (by omega) (by rw [hj]; simpa using ew) fin hs
  · have hj : (i + (its.toArray.size : Int)).toNat = j := by
      rw [seqIndex_neg (by omega) h4] at h1
      rw [List.size_toArray, ← hl]
      exact Option.some.inj h1
    exact subscriptTail_builtinR (x := w) pl.isList.typeIs slot_list_getitem.lookup
      (wpAny_getItem_list_neg (Q := fun r s' => r = w ∧ EP X pins σ Q r s') pl.isList (by omega) (by rw [List.size_toArray] <;> omega) (by omega) (by rw [hj]; simpa using ew) ⟨rfl, fin⟩) hs
theorem ix_tup : IxR X (rIxT X.K) := by
  intro value slice pins s σ H x y v u Q I rx ry h hs
  obtain ⟨p, xs, i, z, rfl, rfl, hq, he, q⟩ := h
  cases rx
  obtain ⟨t, rfl⟩ := ry
  obtain ⟨its, r, pl, hz⟩ := I.tuple hq
  obtain ⟨j, h1, h2, h3, h4, h5⟩ := atI_get he
  obtain ⟨w, ew, rw'⟩ := r.get h2
  have hl := r.length
  have hn := line63
  have fin : EP X pins σ Q w s := ⟨z, H, I, rw', q⟩
  exact subscriptTail_builtinR (x := w) pl.typeIs slot_tuple_getitem.lookup
    (getItem_tuple (j := j) (Q := fun r s' => r = w ∧ EP X pins σ Q r s') pl (by omega) (by omega) (by rw [List.size_toArray, ← hl]; exact h1) (by simpa using ew) ⟨rfl, fin⟩) hs
/-! ### xs[i] = v, any sign -/
/-- the list's object behind a store -/
theorem mapSeq_set (its : List Value) (n j : Nat) (u : Value) : Obj.mapSeq (·.setIfInBounds j u) { cls := .type "list", data := .seq its.toArray n } = { cls := .type "list", data := .seq (its.set j u).toArray n } := by
  simp [Obj.mapSeq]
theorem Inv.lst {pins : List (Addr × Obj)} {σ : St} {H : Hp} {s : Shared} {p : Addr} {xs : List V} (I : Inv X pins σ H s) (h : H p = some (.lst xs)) :
    ∃ (its : List Value) (n : Nat), Vals xs its ∧ s.heap.get? p = some { cls := .type "list", data := .seq its.toArray n } ∧ xs.length ≤ sizeLine := by
  obtain ⟨z, its, n, r, e⟩ := I.hok p _ h
  exact ⟨its, n, r, e, z⟩
/-- the list at p is written by an update of its object -/
theorem Inv.lstUpd {pins : List (Addr × Obj)} {σ : St} {H : Hp} {s : Shared} {p : Addr} {xs ys : List V} {its its' : List Value} {n n' : Nat} {f : Obj → Obj} (I : Inv X pins σ H s) (h : H p = some (.lst xs))
    (ho : s.heap.get? p = some { cls := .type "list", data := .seq its.toArray n }) (hf : f { cls := .type "list", data := .seq its.toArray n } = { cls := .type "list", data := .seq its'.toArray n' }) (r : Vals ys its') (hz : ys.length ≤ sizeLine) (t : Nat) :
    Inv X pins σ (upd H p (.lst ys)) { s with heap := s.heap.update p f, toks := t } := by
  have e : (s.heap.update p f).get? p = some { cls := .type "list", data := .seq its'.toArray n' } := by
    rw [Heap.get?_update_self f ho (by rw [hf] <;> rfl), hf]
  refine I.write (x := p) (e := p) (by rw [h]; trivial) (.inl rfl) (fun b u hb q => (Heap.get?_update_other _ _ (Ne.symm hb)).trans q) ⟨_, e⟩ ?_
  exact ⟨hz, its', n', r, e⟩
def rSetL : V → V → V → Hp → (Hp → Prop) → Prop := fun o i v H Q => ∃ p xs k j, o = .ref p ∧ i = .int k ∧ H p = some (.lst xs) ∧ ixN xs.length k = some j ∧ Q (upd H p (.lst (xs.set j v)))
theorem set_list : PSet X rSetL := by
  intro pins s σ H o i v ov iv u Q I ro ri rv h
  obtain ⟨p, xs, k, j, rfl, rfl, hp, hj, q⟩ := h
  cases ro
  obtain ⟨t, rfl⟩ := ri
  obtain ⟨its, n, r, ho, hz⟩ := I.lst hp
  obtain ⟨h1, h2, h3, h4⟩ := ixN_seq hj
  have hl := r.length
  have hn := line63
  have I' : Inv X pins σ (upd H p (.lst (xs.set j v))) { s with heap := s.heap.update p (Obj.mapSeq (·.setIfInBounds j u)) } :=
    I.lstUpd hp ho (mapSeq_set its n j u) (r.set rv j) (by rw [List.length_set]; exact hz) s.toks
  by_cases h0 : 0 ≤ k
  · have hk : k.toNat = j := by
      rw [seqIndex_of h0 h4] at h1
      exact Option.some.inj h1
    exact PySem.W.ki_setAt ho h0 (by omega) (by rw [List.size_toArray, ← hl]; exact h4) (by rw [hk]; exact ⟨_, I', q⟩)
  · have hk : (k + (its.toArray.size : Int)).toNat = j := by
      rw [seqIndex_neg (by omega) h3] at h1
      rw [List.size_toArray, ← hl]
      exact Option.some.inj h1
    exact PySem.W.ki_setBack ho (by omega) (by rw [List.size_toArray, ← hl]; exact h3) (by omega) (by rw [hk]; exact ⟨_, I', q⟩)

/-! ### slices -/
/-! ### in, not in: flat items -/
def flatV : V → Bool
  | .non => true
  | .bl _ => true
  | .int _ => true
  | .str _ => true
  | _ => false
/-- == of flat values -/
def eqV : V → V → Bool
  | .non, .non => true
  | .bl a, .bl b => a == b
  | .bl a, .int b => (if a then 1 else 0) == b
  | .int a, .bl b => a == (if b then 1 else 0)
  | .int a, .int b => a == b
  | .str a, .str b => a == b
  | _, _ => false
theorem eqAt_V {A : Around} {s : Shared} {y x : V} {u v : Value} (ry : RelV y u) (rx : RelV x v) (fy : flatV y = true) (fx : flatV x = true) : SeqAt.EqAt A s u v (eqV y x) := by
  cases y with
  | non =>
    cases ry
    cases x with
    | non => cases rx; exact SeqAt.EqAt.same _
    | bl b => cases rx; exact SeqAt.EqAt.none_bool b
    | int b => obtain ⟨t, rfl⟩ := rx; exact SeqAt.EqAt.none_int b t
    | str b => obtain ⟨t, rfl⟩ := rx; exact SeqAt.EqAt.none_str b t
    | _ => exact absurd (show false = true from fx) Bool.false_ne_true
  | bl a =>
    cases ry
    cases x with
    | non => cases rx; exact SeqAt.EqAt.bool_none a
    | bl b => cases rx; exact SeqAt.EqAt.bool_bool a b
    | int b => obtain ⟨t, rfl⟩ := rx; exact SeqAt.EqAt.bool_int a b t
    | str b => obtain ⟨t, rfl⟩ := rx; exact SeqAt.EqAt.bool_str a b t
    | _ => exact absurd (show false = true from fx) Bool.false_ne_true
  | int a =>
    obtain ⟨t', rfl⟩ := ry
    cases x with
    | non => cases rx; exact SeqAt.EqAt.int_none a t'
    | bl b => cases rx; exact SeqAt.EqAt.int_bool a t' b
    | int b => obtain ⟨t, rfl⟩ := rx; exact SeqAt.EqAt.int_int a t' b t
    | str b => obtain ⟨t, rfl⟩ := rx; exact SeqAt.EqAt.int_str a t' b t
    | _ => exact absurd (show false = true from fx) Bool.false_ne_true
  | str a =>
    obtain ⟨t', rfl⟩ := ry
    cases x with
    | non => cases rx; exact SeqAt.EqAt.str_none a t'
    | bl b => cases rx; exact SeqAt.EqAt.str_bool a t' b
    | int b => obtain ⟨t, rfl⟩ := rx; exact SeqAt.EqAt.str_int a t' b t
    | str b => obtain ⟨t, rfl⟩ := rx; exact SeqAt.EqAt.str_str a t' b t
    | _ => exact absurd (show false = true from fx) Bool.false_ne_true
  | _ => exact absurd (show false = true from fy) Bool.false_ne_true
/-- the items' answers, read off the values (a value's own answer does not lean on its token) -/
def eqU (x : V) (u : Value) : Bool := match u with
  | .none => eqV .non x
  | .bool b => eqV (.bl b) x
  | .int i _ => eqV (.int i) x
  | .str z _ => eqV (.str z) x
  | _ => false
theorem eqU_of {x y : V} {u : Value} (r : RelV y u) (f : flatV y = true) : eqU x u = eqV y x := by
  cases y with
  | non => cases r; rfl
  | bl b => cases r; rfl
  | int i => obtain ⟨t, rfl⟩ := r; rfl
  | str z => obtain ⟨t, rfl⟩ := r; rfl
  | _ => exact absurd (show false = true from f) Bool.false_ne_true
theorem any_eqU {x : V} : ∀ {xs : List V} {us : List Value}, Vals xs us → xs.all flatV = true → us.any (eqU x) = xs.any fun y => eqV y x
  | _, _, .nil, _ => rfl
  | y :: xs, u :: us, .cons r t, f => by
    rw [List.all_cons, Bool.and_eq_true] at f
    rw [List.any_cons, List.any_cons, eqU_of r f.1, any_eqU t f.2]
theorem mem_eqAt {A : Around} {s : Shared} {x : V} {v : Value} (rx : RelV x v) (fx : flatV x = true) : ∀ {xs : List V} {us : List Value}, Vals xs us → xs.all flatV = true → ∀ u ∈ us, SeqAt.EqAt A s u v (eqU x u)
  | _, _, .nil, _ => fun u hu => by cases hu
  | y :: xs, u :: us, .cons r t, f => fun u' hu => by
    rw [List.all_cons, Bool.and_eq_true] at f
    rcases List.mem_cons.mp hu with rfl | hu
    · rw [eqU_of r f.1]; exact eqAt_V r rx f.1 fx
    · exact mem_eqAt rx fx t f.2 u' hu
def inV (x : V) (xs : List V) : Bool := xs.any fun y => eqV y x
/-- x in a list or tuple of flat items -/
def rIn (K : PySem.W.Frag) (neg : Bool) : R2 := fun x y H Q => ∃ p xs, y = .ref p ∧ (SqL K H p xs ∨ SqT K H p xs) ∧ flatV x = true ∧ xs.all flatV = true ∧ Q (.bl (if neg then !inV x xs else inV x xs)) H
theorem op_in_seq : OpR X (compareOp .In) (rIn X.K false) := by
  intro pins s σ H x y v u Q I rx ry h
  obtain ⟨p, xs, rfl, hq, fx, fs, q⟩ := h
  cases ry
  rcases hq with hq | hq
  · obtain ⟨its, r, pl, hz⟩ := I.list hq
    refine SeqAt.in_listAt (eqU x) pl.isList (fun w hw => mem_eqAt rx fx r fs w (by simpa using hw)) ⟨.bl _, H, I, rfl, ?_⟩
    rw [show its.toArray.any (eqU x) = its.any (eqU x) by simp, any_eqU r fs]
    exact q
  · obtain ⟨its, r, pl, hz⟩ := I.tuple hq
    refine SeqAt.in_tupleAt (eqU x) pl (fun w hw => mem_eqAt rx fx r fs w (by simpa using hw)) ⟨.bl _, H, I, rfl, ?_⟩
    rw [show its.toArray.any (eqU x) = its.any (eqU x) by simp, any_eqU r fs]
    exact q
/-! ### len, list(x), tuple(x) of any list or tuple that is read -/
theorem call_len_seq : CallR X (.builtin "len") (fun xs H Q => ∃ p ys, xs = [.ref p] ∧ (SqL X.K H p ys ∨ SqT X.K H p ys) ∧ Q (.int ys.length) H) := by
  intro pins s σ H xs us Q I r h
  obtain ⟨p, ys, rfl, hq, q⟩ := h
  obtain ⟨u, rfl, rx⟩ := vals1 r
  cases rx
  have hn := line63
  rcases hq with hq | hq
  · obtain ⟨its, r', pl, hz⟩ := I.list hq
    have hlen := r'.length
    exact Calls.call_len_list pl.isList (by simp only [List.size_toArray] <;> omega) ⟨.int ys.length, H, I.tok _, ⟨s.toks + 1, by rw [List.size_toArray, hlen]⟩, q⟩
  · obtain ⟨its, r', pl, hz⟩ := I.tuple hq
    have hlen := r'.length
    exact len_tuple pl (by simp only [List.size_toArray] <;> omega) ⟨.int ys.length, H, I.tok _, ⟨s.toks + 1, by rw [List.size_toArray, hlen]⟩, q⟩
theorem CallR.or {f : Value} {r r' : List V → Hp → VK → Prop} (h : CallR X f r) (h' : CallR X f r') : CallR X f (fun xs H Q => r xs H Q ∨ r' xs H Q) := by
  intro pins s σ H xs us Q I rs q
  rcases q with q | q
  · exact h pins s σ H xs us Q I rs q
  · exact h' pins s σ H xs us Q I rs q
/-! ### the call of a builtin's method: o.m(..) -/
/-- the value is of that builtin type -/
def tyV (K : PySem.W.Frag) (T : String) (x : V) (H : Hp) : Prop := match x with
  | .str _ => T = "str"
  | .int _ => T = "int"
  | .ref p => (T = "list" ∧ ∃ xs, SqL K H p xs) ∨ (T = "tuple" ∧ ∃ o, K.lookup p = some o ∧ o.cls = .type "tuple" ∧ o.dict = none) ∨
      (T = "dict" ∧ ((∃ kvs, H p = some (.dK kvs)) ∨ ∃ kvs, H p = some (.dT kvs))) ∨ (T = "set" ∧ ∃ S n, H p = some (.set S n))
  | _ => False
theorem tyV_is {pins : List (Addr × Obj)} {σ : St} {H : Hp} {s : Shared} {T : String} {x : V} {v : Value} (I : Inv X pins σ H s) (r : RelV x v) (ty : tyV X.K T x H) :
    s.TypeIs v T ∧ ∀ a, v = .ref a → ∃ ob, s.heap.get? a = some ob ∧ ob.dict = none := by
  cases x with
  | str z =>
    obtain ⟨t, rfl⟩ := r
    cases (show T = "str" from ty)
    exact ⟨typeIs_str s z t, fun _ e => nomatch e⟩
  | int i =>
    obtain ⟨t, rfl⟩ := r
    cases (show T = "int" from ty)
    exact ⟨typeIs_int s i t, fun _ e => nomatch e⟩
  | ref p =>
    cases r
    rcases ty with ⟨rfl, xs, hq⟩ | ⟨rfl, o, hk, hc, hd⟩ | ⟨rfl, hk⟩ | ⟨rfl, S, n, hk⟩
    · obtain ⟨its, _, pl, _⟩ := I.list hq
      refine ⟨pl.isList.typeIs, fun a e => ?_⟩
      cases e
      obtain ⟨o, n, e, c, hd, _⟩ := pl
      exact ⟨o, e, hd⟩
    · refine ⟨⟨o, I.kIn p o hk, hc⟩, fun a e => ?_⟩
      cases e
      exact ⟨o, I.kIn _ o hk, hd⟩
    · have z : ∃ o, s.heap.get? p = some o ∧ o.ExactDict := by
        rcases hk with ⟨kvs, hk⟩ | ⟨kvs, hk⟩
        · obtain ⟨_, _, _, _, o, _, _, e, ex, _⟩ := I.hok p _ hk
          exact ⟨o, e, ex⟩
        · obtain ⟨_, _, _, _, o, _, _, e, ex, _⟩ := I.hok p _ hk
          exact ⟨o, e, ex⟩
      obtain ⟨o, e, ex⟩ := z
      refine ⟨⟨o, e, ex.1⟩, fun a e2 => ?_⟩
      cases e2
      exact ⟨o, e, ex.2.1⟩
    · obtain ⟨o, _, _, _, e, ex, _⟩ := I.hok p _ hk
      refine ⟨⟨o, e, ex.1⟩, fun a e2 => ?_⟩
      cases e2
      exact ⟨o, e, ex.2.1⟩
  | _ => exact False.elim ty
def tBM0 (K : PySem.W.Frag) (T : String) (r : V → List V → Hp → VK → Prop) (to : TE) : TE := fun σ H Q => to σ H fun x H1 => tyV K T x H1 ∧ r x [] H1 Q
def tBM (K : PySem.W.Frag) (T : String) (r : V → List V → Hp → VK → Prop) (to : TE) (t : TA) : TE := fun σ H Q => to σ H fun x H1 => tyV K T x H1 ∧ t σ H1 fun xs H2 => r x xs H2 Q
variable {o e : Expr} {es : List Expr} {to : TE} {t : TA} {name : Str} {apos cpos : Pos} {T id : String} {r : V → List V → Hp → VK → Prop}
theorem pe_bm0 (pa : PlainAttrs T) (slot : Slot T name id) (hty : typeOf (.builtin id) = pure (.type "method_descriptor")) (hm : MtR X id r) (ho : PE X o to)
    (hbase : attributeBase o name X.env (eval o X.env) = eval o X.env := by rfl) (hline : (apos.endLine == cpos.line) = true := by rfl) : PE X (.Call (.Attribute o name apos) [] [] cpos) (tBM0 X.K T r to) := by
  intro pins s σ H Q I h
  refine wpAny_Call_method0_late hbase hline (thn (ho pins s σ H _ I h) fun v s1 ⟨x, H1, I1, r1, ty, q1⟩ => ?_)
  obtain ⟨h1, h2⟩ := tyV_is I1 r1 ty
  exact ⟨T, id, pa, slot, hty, h1, h2, Calls.callWith_builtin rfl (PySem.evalArgs_none (hm pins s1 σ H1 x [] v [] Q I1 r1 .nil q1))⟩
theorem pe_bm (pa : PlainAttrs T) (slot : Slot T name id) (hty : typeOf (.builtin id) = pure (.type "method_descriptor")) (hm : MtR X id r) (ho : PE X o to) (ha : PA X (e :: es) t)
    (hbase : attributeBase o name X.env (eval o X.env) = eval o X.env := by rfl)
    (hfew : ((backTo cpos (starEach (e :: es) X.env)).all (fun x => !x.1) && (backToKw cpos (keywordEach [] X.env)).all (fun x => x.1.isSome)
      && decide ((e :: es).length + ([] : List Keyword).length + (if ([] : List Keyword).isEmpty then 0 else 1) < 30)) = true := by rfl)
    (hline : (apos.endLine == cpos.line) = true := by rfl) (hs : starEach (e :: es) X.env = (false, eval e X.env) :: starEach es X.env := by rfl) (hplain : (backTo cpos (starEach es X.env)).any (·.1) = false := by rfl) :
    PE X (.Call (.Attribute o name apos) (e :: es) [] cpos) (tBM X.K T r to t) := by
  intro pins s σ H Q I h
  refine wpAny_Call_method_late hbase hfew hline rfl (thn (ho pins s σ H _ I h) fun v s1 ⟨x, H1, I1, r1, ty, q1⟩ => ?_)
  obtain ⟨h1, h2⟩ := tyV_is I1 r1 ty
  refine ⟨T, id, pa, slot, hty, h1, h2, ?_⟩
  have hA := ha cpos pins s1 σ H1 _ I1 q1
  rw [hs] at hA ⊢
  refine Calls.callWith_builtin (by show (false || (backTo cpos (starEach es X.env)).any (·.1)) = false; rw [hplain] <;> rfl) (Calls.evalArgs_plain ?_)
  exact thn hA fun us s2 ⟨vs, H2, I2, r2, q2⟩ => hm pins s2 σ H2 x vs v us Q I2 r1 r2 q2
/- xs.append(e), list.index on a module's tuple .. are MtR facts of 06m -/
end
end L2

namespace L2
open PySem PySem.Spec PyProof.Rows

def MtM (X : Cx) (id : String) (r : V → List V → Hp → VK → Prop) : Prop :=
  ∀ (pins : List (Addr × Obj)) (s : Shared) (σ : St) (H : Hp) (x : V) (xs : List V) (v : Value) (us : List Value) (Q : VK), Inv X pins σ H s → RelV x v → Vals xs us → r x xs H Q →
    wpAny (model X.prog X.w) X.A (call (.builtin id) (v :: us)) (EP X pins σ Q) X.xe s

/-! ### lists of values -/
theorem Vals.one : ∀ {x : V} {us : List Value}, Vals [x] us → ∃ u, us = [u] ∧ RelV x u
  | _, _, .cons r .nil => ⟨_, rfl, r⟩
theorem Vals.two : ∀ {x y : V} {us : List Value}, Vals [x, y] us → ∃ u v, us = [u, v] ∧ RelV x u ∧ RelV y v
  | _, _, _, .cons r (.cons q .nil) => ⟨_, _, rfl, r, q⟩
theorem Vals.zero : ∀ {us : List Value}, Vals [] us → us = []
  | _, .nil => rfl
theorem Vals.eraseIdx : ∀ {xs : List V} {us : List Value} (i : Nat), Vals xs us → Vals (xs.eraseIdx i) (us.eraseIdx i)
  | _, _, _, .nil => .nil
  | _, _, 0, .cons _ t => t
  | _, _, i + 1, .cons r t => .cons r (Vals.eraseIdx i t)
section
variable {X : Cx} {pins : List (Addr × Obj)} {σ : St} {H : Hp} {s : Shared} {l b : Addr} {xs ys zs : List V}

/-! ### the two steps: a tracked list is rewritten, a new list is laid -/
theorem Inv.lset {its its' : List Value} {n : Nat} {f : Array Value → Array Value} {t' : Nat} (I : Inv X pins σ H s) (hH : H l = some (.lst xs))
    (e : s.heap.get? l = some { cls := .type "list", data := .seq its.toArray n }) (hf : f its.toArray = its'.toArray) (hv : Vals ys its') (hz : ys.length ≤ sizeLine) :
    Inv X pins σ (upd H l (.lst ys)) { s with heap := s.heap.update l (Obj.mapSeq f), toks := t' } := by
  have q := PySem.IsL.update e f
  rw [hf] at q
  refine I.write (x := l) (e := l) (by rw [hH]; exact trivial) (.inl rfl) (fun b' u hb hu => (Heap.get?_update_other s.heap (Obj.mapSeq f) (Ne.symm hb)).trans hu) ⟨_, q⟩ ?_
  exact ⟨hz, its', _, hv, q⟩
theorem Inv.lnew {its : List Value} {t' : Nat} (I : Inv X pins σ H s) (hv : Vals ys its) (hz : ys.length ≤ sizeLine) :
    Inv X pins σ (upd H s.heap.objs.size (.lst ys)) { s with heap := s.heap.push { cls := .type "list", data := .seq its.toArray }, toks := t' } :=
  I.laid (fun _ _ q => Heap.get?_push_of_some _ q) (Nat.le_refl _) ⟨hz, its, 0, hv, Heap.get?_push_size _ rfl⟩
theorem Inv.fresh (I : Inv X pins σ H s) : H s.heap.objs.size = none := I.hok.fresh (Nat.le_refl _)
theorem Inv.lstM (I : Inv X pins σ H s) (hH : H l = some (.lst xs)) : xs.length ≤ sizeLine ∧ ∃ (its : List Value) (n : Nat), Vals xs its ∧ xs.length = its.length ∧ s.heap.get? l = some { cls := .type "list", data := .seq its.toArray n } := by
  obtain ⟨z, its, n, r, e⟩ := I.hok l _ hH
  exact ⟨z, its, n, r, r.length, e⟩

end

section
variable {X : Cx}

/-! ### methods -/
def rAppend : V → List V → Hp → VK → Prop := fun x vs H Q => ∃ l xs y, x = .ref l ∧ vs = [y] ∧ H l = some (.lst xs) ∧ xs.length < sizeLine ∧ Q .non (upd H l (.lst (xs ++ [y])))
theorem mt_append : MtM X "list.append" rAppend := by
  intro pins s σ H x vs v us Q I rx rv h
  obtain ⟨l, xs, y, rfl, rfl, hH, hz, q⟩ := h
  cases rx
  obtain ⟨u, rfl, ru⟩ := rv.one
  obtain ⟨z, its, n, r, hl, e⟩ := I.lstM hH
  refine call_meets F.slot_list_append ⟨_, e, rfl⟩ F.entry_list_append (F.args_list_append_2 _ _) (PySem.list_append l its.toArray n u (by rw [List.size_toArray]; omega)) ⟨e, ?_⟩
  refine ⟨.non, _, I.lset (its' := its ++ [u]) hH e (by simp) (r.append (.cons ru .nil)) ?_, rfl, q⟩
  rw [List.length_append, List.length_singleton]
  omega

def rClear : V → List V → Hp → VK → Prop := fun x vs H Q => ∃ l xs, x = .ref l ∧ vs = [] ∧ H l = some (.lst xs) ∧ Q .non (upd H l (.lst []))
theorem mt_clear : MtM X "list.clear" rClear := by
  intro pins s σ H x vs v us Q I rx rv h
  obtain ⟨l, xs, rfl, rfl, hH, q⟩ := h
  cases rx
  have hus := rv.zero
  subst hus
  obtain ⟨z, its, n, r, hl, e⟩ := I.lstM hH
  refine call_meets F.slot_list_clear ⟨_, e, rfl⟩ F.entry_list_clear (F.args_list_clear_1 _) (AutoSeq1.list_clear_list_0 l its.toArray n (by rw [List.size_toArray]; omega)) ⟨e, ?_⟩
  exact ⟨.non, _, I.lset (its' := []) (ys := []) hH e rfl .nil (Nat.zero_le _), rfl, q⟩

/-! ### list + list, list += list, list * int -/
def rCat : R2 := fun x y H Q => ∃ l b xs zs, x = .ref l ∧ y = .ref b ∧ H l = some (.lst xs) ∧ H b = some (.lst zs) ∧ xs.length + zs.length ≤ sizeLine ∧ ∀ p, H p = none → Q (.ref p) (upd H p (.lst (xs ++ zs)))
theorem op_cat : OpR X (binaryOp .Add) rCat := by
  intro pins s σ H x y v u Q I rx ry h
  obtain ⟨l, b, xs, zs, rfl, rfl, hH, hB, hz, q⟩ := h
  cases rx
  cases ry
  obtain ⟨z, its, n, r, hl, e⟩ := I.lstM hH
  obtain ⟨z2, its2, n2, r2, hl2, e2⟩ := I.lstM hB
  refine PySem.P.add_list e e2 ?_ (by rw [List.size_toArray, List.size_toArray]; omega)
  have ea : its.toArray ++ its2.toArray = (its ++ its2).toArray := by simp
  rw [ea]
  exact ⟨.ref _, _, I.lnew (t' := s.toks) (r.append r2) (by rw [List.length_append]; omega), rfl, q _ I.fresh⟩
/-! ### del xs[i] -/
end

/-! ### xs[a:b] = ys -/
section
variable {prog : Program} {w : World} {A : Around} {E : Value → Shared → Prop} {s : Shared}
end

section
variable {X : Cx}
end
end L2

namespace Att
open PySem PySem.W PySem.Calls PyProof.Rows

/-! ### the script -/
theorem ints_of_wellAll {P : Params} {h : Heap} : ∀ (ns : List Int) (vs : List Value), WellAll P h vs (ns.map WData.int) → IntsAre vs ns := by
  intro ns
  induction ns with
  | nil =>
    intro vs w
    rw [List.map_nil] at w
    cases w
    exact .nil
  | cons n ns ih =>
    intro vs w
    rw [List.map_cons] at w
    cases w with
    | cons a b =>
      cases a
      exact .cons _ _ (ih _ b)

theorem script_of {l : OpenLaw} {n : Nat} (hn : l.most = some n) {P : Params} {h : Heap} {args : List WData} {vals : List Value}
    (hpre : l.row.toRowW.claim.pre args = true) (hwl : WellAll P h vals args) :
    ∃ a vs ns, vals = [Value.ref a] ∧ args = [WData.list (ns.map WData.int)] ∧ h.get? a = some { cls := .type "list", data := .seq vs.toArray } ∧ IntsAre vs ns ∧ ns.length ≤ n := by
  have hsh : WShape.hasAll [] args [.list .int] = true := (pre_splitW hpre).1
  have hc : l.pre.holds [] { args := args } = true := (pre_splitW hpre).2
  obtain ⟨d, r, rfl, h1, h2⟩ := hasAllW_cons hsh
  obtain rfl := hasAllW_nil h2
  obtain ⟨xs, rfl, h3⟩ := hasW_list h1
  obtain ⟨ns, rfl⟩ := items_int h3
  have hlen : ns.length ≤ n := by
    unfold OpenLaw.pre at hc
    have h4 : (WTm.not (.lt (.lit (.int (n : Int))) (.len (.arg 0)))).holds [] { args := [.list (ns.map .int)] } = true := by
      have h4 := (holds_andW hc).1
      rw [hn] at h4
      exact h4
    have h5 := condW_of h4 (w_not (w_lt w_lit (w_len_list (w_arg rfl))))
    rw [List.length_map] at h5
    refine Nat.le_of_not_lt fun q => ?_
    have q' : (n : Int) < ((ns.length : Nat) : Int) := by omega
    first
      | (rw [decide_eq_true q'] at h5; exact absurd h5 (by decide))
      | (simp at h5; omega)
  cases hwl with
  | cons w1 w2 =>
    cases w2
    cases w1 with
    | list ho hall => exact ⟨_, _, ns, rfl, rfl, ho, ints_of_wellAll ns _ hall, hlen⟩

theorem post_true (l : OpenLaw) (args : List WData) : l.row.toRowW.claim.post args (.bool true) args = true :=
  postW_of (r := l.row.toRowW) (X := (true == true))
    (show WShape.has [] (.bool true) .bool = true by first | rfl | decide | simp [WShape.has, WShape.arms, WShape.armsAll])
    (show (WTm.eq .res (.lit (.bool true))).value [] { args := args, res := some (.bool true), after := args } = some (.bool (true == true)) from w_eq_bool (w_res rfl) w_lit) rfl

/-! ### the attachment: holds_open's last premise (the goal 'hc' behind k_head) from a wpAny of the law's body -/
/-- the same from a codeAny of the CALL (for a layer whose function contracts speak of calls) -/
theorem attach_call {l : OpenLaw} {n : Nat} {q : Program} {loose : List Str} {XP : (Str → Option Value) → Heap → Prop} {YP : World → Heap → Prop} {d : DefRec}
    (hn : l.most = some n) (hdf : d.params.defaults = [])
    (call : ∀ (w : World) (s₀ s₁ : Shared) (mg mb : Str → Option Value) (fa : Addr) (o : Obj) (pm cd doc : Value) (a : Addr) (vs : List Value) (ns : List Int),
      Ground q loose [] XP w s₀ mg mb s₁.heap → YP w s₁.heap →
      s₁.heap.get? fa = some o → o.data = .func (docDef d.name d.params d.body d.scope pm cd doc) → s₁.heap.CodeRec cd d.name → mg d.name = some (.ref fa) →
      s₁.heap.get? a = some { cls := .type "list", data := .seq vs.toArray } → IntsAre vs ns → ns.length ≤ n → s₁.gens = #[] →
      codeAny (model l.prog w) callerA (.call (.ref fa) ⟨[.ref a], []⟩) (fun r s' => r = .ok (.ret (.bool true)) ∧ OldK s₁.heap s'.heap ∧ s'.os = s₁.os ∧ AllBare s'.gens) s₁) :
    WalkO q loose XP YP l.row.toRowW d [] (fun f vs => PySem.call f vs) := by
  intro w s₀ s₁ mg mb G Y fa o pm cd doc dV kV ho hd hcd hD hmg hg args vals as hpre hlay hrd hwl hlo
  obtain rfl : dV = .none := Dflts.none hD hdf
  obtain rfl : kV = .none := Dflts.noKw hD
  obtain ⟨a, vs, ns, rfl, rfl, hobj, hints, hlen⟩ := script_of hn hpre hwl
  refine enter_call (codeAny_mono (call w s₀ s₁ mg mb fa o pm cd doc a vs ns G Y ho (fd_plain hd) hcd hmg hobj hints hlen hg) fun r s' hq => ?_)
  obtain ⟨rfl, h2, h3, h4⟩ := hq
  exact ⟨.inl ⟨.bool true, .bool true, [], rfl, fun _ => rfl, .bool true, post_true l _, fun _ => ⟨List.Pairwise.nil, fun _ hm => (nomatch hm)⟩⟩, h2, h3, h4⟩

/-! ### rules over ANY heap (no ledger) from facts about the written part K: the library's own take a ledger (News) for what they write -/
section
variable {prog : Program} {w : World} {A : Around} {E : Value → Shared → Prop} {s : Shared} {K : Frag}

/-! the whole heap as the ledger: makes every rule that writes through a ledger a rule over any heap -/
def ledger (h : Heap) (L d : Addr) : List (Addr × Obj) := (List.range h.objs.size).filterMap fun a => if a = L ∨ a = d then none else (h.get? a).map fun o => (a, o)
end
end Att

namespace L2
open PySem PySem.Spec PyProof.Rows

theorem vals_ints : ∀ {vs : List Value} {ns : List Int}, IntsAre vs ns → Vals (ns.map V.int) vs
  | _, _, .nil => .nil
  | _, _, .cons n t h => .cons ⟨t, rfl⟩ (vals_ints h)

/-- nothing is tracked but the script, known to the object (or it is an object of the module) -/
def Only (H : Hp) : Prop := ∀ b, H b = none ∨ ∃ o xs, H b = some (.frz o (.lst xs))

/-- THE HEAD: the law's promise, at the heap behind the top. F, the promise of the law's def, may use that base is part of the heap (so K.In base, base.Ns mainGlobals mg stand in Mod) -/
theorem law_call {P : Program} {w : World} {K : PySem.W.Frag} {mg mb : Str → Option Value} {CX : CXT} {k : Nat} {fa a : Addr} {fd : FuncData} {x : Str} {sp : Sp} {s₁ : Shared} {vs : List Value} {ns : List Int}
    (KX : K.In s₁.heap) (hns : s₁.heap.Ns mainGlobals mg) (hb : s₁.heap.Ns builtinsNs mb) (hbb : ∀ x : Str, x ≠ "__name__" → mb x = bootBuiltins x) (hlim : s₁.heap.NoLimit) (hg : s₁.gens = #[])
    (ha : s₁.heap.get? a = some { cls := .type "list", data := .seq vs.toArray }) (hi : IntsAre vs ns) (hl : ns.length ≤ sizeLine) (hr : Room k callerA)
    (F : ∀ base : Heap, K.In base → base.Ns mainGlobals mg → FnOk P w K mg base CX k fa fd [x] sp) (hbind : ∀ (s : Shared) (u : Value), BindsTo s fd ⟨[u], []⟩ [(x, u)])
    (hsp : ∀ H : Hp, Only H → SqL K H a (ns.map V.int) → sp [.ref a] H (fun v _ => v = .bl true) fun _ _ _ => False)
    (hCX : ∀ H e s', CX [] H s₁ (fun _ _ _ => False) e s' → False) :
    codeAny (model P w) callerA (.call (.ref fa) ⟨[.ref a], []⟩) (fun r s' => r = .ok (.ret (.bool true)) ∧ OldK s₁.heap s'.heap ∧ s'.os = s₁.os ∧ AllBare s'.gens) s₁ := by
  have rv := vals_ints hi
  have lenV := hi.length
  -- from an abstract heap in which nothing but the script may be tracked
  have core : ∀ H : Hp, Only H → SqL K H a (ns.map V.int) → HOk P w H s₁.heap → (∀ b, H b ≠ none → b = a) → (H a ≠ none → K.lookup a = none) →
      codeAny (model P w) callerA (.call (.ref fa) ⟨[.ref a], []⟩) (fun r s' => r = .ok (.ret (.bool true)) ∧ OldK s₁.heap s'.heap ∧ s'.os = s₁.os ∧ AllBare s'.gens) s₁ := by
    intro H hO hS hok hA hK
    have base_of : ∀ {b : Addr} {o : Obj}, s₁.heap.get? b = some o → H b = none → (hidT s₁.heap H).get? b = some o := fun e n => hidT_get e n
    have noA : ∀ {b : Addr} {o : Obj} {es : Array DictEntry} {ep : Nat}, s₁.heap.get? b = some o → o.data = .dict es ep → H b = none := fun {b o es ep} e d => by
      cases q : H b with
      | none => rfl
      | some u =>
        have e' : b = a := hA b (by rw [q]; simp)
        subst e'
        rw [ha] at e; cases e
        have d' : Data.seq vs.toArray _ = Data.dict es ep := d
        cases d'
    have nsK : ∀ {b : Addr} {m : Str → Option Value}, s₁.heap.Ns b m → (hidT s₁.heap H).Ns b m := fun {b m} ⟨o, es, ep, e, d, r⟩ => ⟨o, es, ep, base_of e (noA e d), d, r⟩
    have hKb : K.In (hidT s₁.heap H) := fun b o e => base_of (KX b o e) (by
      cases q : H b with
      | none => rfl
      | some u =>
        have e' : b = a := hA b (by rw [q]; simp)
        subst e'
        rw [hK (by rw [q]; simp)] at e; cases e)
    have hM : Mod K mg (hidT s₁.heap H) := ⟨hKb, nsK hns, ⟨mb, nsK hb, hbb⟩, let ⟨mc, h1, h2⟩ := hlim; ⟨mc, nsK h1, h2⟩⟩
    have e0 : Env0 P w K mg (hidT s₁.heap H) callerA [] s₁ H := ⟨rfl, hM, fun b o e => of_hidT e, Nat.le_of_eq (hidT_size _ _), trivial, fun b hb => absurd (show b ∈ ([] : List Addr) from hb) (by simp), hok, .of_eq hg⟩
    refine codeAny_mono ((F _ hKb (nsK hns)).run callerA [] s₁ H ⟨[.ref a], []⟩ [.ref a] [.ref a] _ _ hr e0 (hbind s₁ (.ref a)) (.cons rfl .nil) (hsp H hO hS)) fun r s' h => ?_
    cases r with
    | error e => exact (hCX H e s' h).elim
    | ok fl =>
      cases fl with
      | next => exact False.elim h
      | brk => exact False.elim h
      | cont => exact False.elim h
      | ret u =>
        obtain ⟨v, H', os, bare, un, hok', r', q⟩ := h
        have q' : v = .bl true := q
        subst q'
        obtain rfl : u = Value.bool true := r'
        refine ⟨rfl, OldK.of_keep fun b o e => ?_, os, bare⟩
        cases q : H b with
        | none => exact un.keep b o e q (by intro z; exact absurd (show b ∈ ([] : List Addr) from z) (by simp)) (by simp)
        | some u =>
          rcases hO b with z | ⟨ob, xs, z⟩
          · rw [q] at z; cases z
          · have z2 := un.frzs b ob _ z
            obtain ⟨e1, _⟩ := hok b _ z
            obtain ⟨e2, _⟩ := hok' b _ z2
            rw [e] at e1; cases e1
            exact e2
  cases hk : K.lookup a with
  | some o =>
    -- the script is one of the module's own objects
    have e := KX a o hk
    rw [ha] at e
    cases e
    refine core (fun _ => none) (fun _ => .inl rfl) (.inr ⟨_, vs.toArray, _, hk, rfl, rfl, rfl, by rw [List.size_toArray, lenV]; exact hl, by simpa using rv⟩) (fun b u z => by have z' : (none : Option HO) = some u := z; cases z') (fun b z => absurd rfl z) fun z => absurd rfl z
  | none =>
    refine core (fun b => if b = a then some (.frz { cls := .type "list", data := .seq vs.toArray } (.lst (ns.map V.int))) else none) (fun b => ?_) (.inl (.inr ⟨{ cls := .type "list", data := .seq vs.toArray }, if_pos rfl⟩)) (fun b u z => ?_) (fun b z => ?_) fun _ => hk
    · by_cases hb : b = a
      · exact .inr ⟨_, _, if_pos hb⟩
      · exact .inl (if_neg hb)
    · by_cases hb : b = a
      · have z' := (if_pos hb).symm.trans z
        cases z'
        subst hb
        exact ⟨ha, by rw [List.length_map]; exact hl, vs, _, rv, ha⟩
      · have z' := (if_neg hb).symm.trans z
        cases z'
    · by_cases hb : b = a
      · exact hb
      · exact absurd (if_neg hb) z
end L2

namespace L2
open PySem PySem.Spec PyProof.Rows

abbrev KOf {K : PySem.W.Frag} {h : Heap} (_ : K.In h) : PySem.W.Frag := K

/-- the goal that k_head leaves (case hc), from the law's promise. F gives the function object fd (K's own) once, then the promise over every base -/
theorem walk_of {l : PySem.W.OpenLaw} {n k : Nat} {q : Program} {loose : List Str} {XP : (Str → Option Value) → Heap → Prop} {YP : World → Heap → Prop} {d : DefRec} {K : Params → PySem.W.Frag} {CX : World → CXT} {sp : World → Sp} {x : Str}
    (hn : l.most = some n) (hn2 : n ≤ sizeLine) (hdf : d.params.defaults = []) (hr : Room k callerA)
    (hY : ∀ (w : World) (h : Heap), YP w h → (K w.params).In h)
    (F : ∀ (w : World) (mg : Str → Option Value) (fa : Addr) (h : Heap), (K w.params).In h → h.Ns mainGlobals mg → mg d.name = some (.ref fa) →
      ∃ fd : FuncData, (∀ (s : Shared) (u : Value), BindsTo s fd ⟨[u], []⟩ [(x, u)]) ∧
        ∀ base : Heap, (K w.params).In base → base.Ns mainGlobals mg → FnOk l.prog w (K w.params) mg base (CX w) k fa fd [x] (sp w))
    (hsp : ∀ (w : World) (H : Hp) (a : Addr) (ns : List Int), ns.length ≤ n → Only H → SqL (K w.params) H a (ns.map V.int) → sp w [.ref a] H (fun v _ => v = .bl true) fun _ _ _ => False)
    (hCX : ∀ (w : World) (H : Hp) (s : Shared) (e : Value) (s' : Shared), CX w [] H s (fun _ _ _ => False) e s' → False) :
    PySem.W.WalkO q loose XP YP l.row.toRowW d [] (fun f vs => PySem.call f vs) := by
  refine Att.attach_call hn hdf fun w s₀ s₁ mg mb fa o pm cd doc a vs ns G Y ho hd hcd hmg hobj hints hlen hg => ?_
  have KX := hY w _ Y
  obtain ⟨fd, hb, hF⟩ := F w mg fa _ KX G.T.g hmg
  exact law_call KX G.T.g G.T.b G.T.builtins G.T.nolimit hg hobj hints (Nat.le_trans hlen hn2) hr hF hb (fun H hO hS => hsp w H a ns hlen hO hS) fun H e s' => hCX w H s₁ e s'
/-- the same where the promise hangs on the written part alone: (sp := My.sp_law), no hole under a binder -/
theorem walk_ofK {l : PySem.W.OpenLaw} {n k : Nat} {q : Program} {loose : List Str} {XP : (Str → Option Value) → Heap → Prop} {YP : World → Heap → Prop} {d : DefRec} {K : Params → PySem.W.Frag} {CX : CXT} {sp : PySem.W.Frag → Sp} {x : Str}
    (hn : l.most = some n) (hn2 : n ≤ sizeLine) (hdf : d.params.defaults = []) (hr : Room k callerA)
    (hY : ∀ (w : World) (h : Heap), YP w h → (K w.params).In h)
    (F : ∀ (w : World) (mg : Str → Option Value) (fa : Addr) (h : Heap), (K w.params).In h → h.Ns mainGlobals mg → mg d.name = some (.ref fa) →
      ∃ fd : FuncData, (∀ (s : Shared) (u : Value), BindsTo s fd ⟨[u], []⟩ [(x, u)]) ∧
        ∀ base : Heap, (K w.params).In base → base.Ns mainGlobals mg → FnOk l.prog w (K w.params) mg base CX k fa fd [x] (sp (K w.params)))
    (hsp : ∀ (K : PySem.W.Frag) (H : Hp) (a : Addr) (ns : List Int), ns.length ≤ n → Only H → SqL K H a (ns.map V.int) → sp K [.ref a] H (fun v _ => v = .bl true) fun _ _ _ => False)
    (hCX : ∀ (H : Hp) (s : Shared) (e : Value) (s' : Shared), CX [] H s (fun _ _ _ => False) e s' → False) :
    PySem.W.WalkO q loose XP YP l.row.toRowW d [] (fun f vs => PySem.call f vs) :=
  walk_of (K := K) (CX := fun _ => CX) (sp := fun w => sp (K w.params)) hn hn2 hdf hr hY F (fun w H a ns h1 h2 h3 => hsp (K w.params) H a ns h1 h2 h3) fun _ H s e s' => hCX H s e s'
end L2

/- THE LAST THEOREM (shape; LID, My.* are yours):
   My.Adr: a structure of the addresses that your layer names (classes, functions); My.Txt K t: a structure (Prop) of the equations over K;
   My.txt_mk : {K} {implicit addresses ..} (e1 : nsIn K mainGlobals "law" = some (some (.ref f))) (e2 : K.lookup f = some ⟨oc, od, .func (fnOf "law" "law" params body scope dV kV doc pm an cdv ct), sl⟩) (e3 : codeIn K cdv "law" = true) .. : ∃ t, My.Txt K t

set_option maxRecDepth 100000 in
set_option maxHeartbeats 0 in
theorem PySem.Challenge.cw_LID_holds : PySem.Challenge.rw_LID.Holds := by
  w_on; o_law; k_head; (case hw => w_witness2)
  k_fill
  refine L2.walk_of (l := PySem.Challenge.rw_LID) (n := 63) (k := 40) (x := "script") (CX := fun w => ..) (sp := fun _ => My.sp_law) rfl (by decide) rfl ⟨rfl, by decide, by decide⟩ (fun w h Y => PySem.W.kIn_of Y) ?F ?S ?C
  case F =>
    intro w mg fa h KX G hmg
    have T : ∃ t, My.Txt (L2.KOf KX) t := by
      dsimp only [L2.KOf]                          -- K must stand as «<heap const> w.params» for k_is
      refine' My.txt_mk ?e1 ?e2 ?e3 ..
      (case e1 => PySem.W.k_is)                    -- in the order: a name -> its address -> its object -> its parts
      (case e2 => PySem.W.k_is)
      ..
    obtain ⟨t, T⟩ := T
    have e0 := hmg.symm.trans (PySem.W.mg_of KX G T.law)
    cases e0                                       -- fa is the law's own address
    exact ⟨_, fun s u => .of_eq rfl, fun base kb nb => My.law_fn T kb nb⟩     -- if «.of_eq rfl» comes too early: refine' ⟨_, ?b, fun base kb nb => My.law_fn T kb nb⟩; exact fun s u => .of_eq rfl
  case S => exact fun w H a ns hl hO hS => ..
  case C => exact ..
(the tactic k_is has no namespace: write k_is) -/

/-! SHORT WORDS over the layer: a def of the text, its body, what a loop and a test want. -/
namespace L2
open PySem PySem.Spec PyProof.Rows

/-! ### the text by places -/
/-- the j-th statement of a class's body -/
def inClass (s : Stmt) (j : Nat) : Stmt := match s with
  | .ClassDef _ _ _ body _ _ _ _ _ _ _ => body.getD j (.Pass ⟨0, 0, 0, 0⟩)
  | _ => .Pass ⟨0, 0, 0, 0⟩
def defArgs (s : Stmt) : Arguments := match s with
  | .FunctionDef _ a _ _ _ _ _ _ _ _ => a
  | _ => { posonlyargs := [], args := [], vararg := none, kwonlyargs := [], kw_defaults := [], kwarg := none, defaults := [] }
def defBody (s : Stmt) : List Stmt := match s with
  | .FunctionDef _ _ b _ _ _ _ _ _ _ => b
  | _ => []
def defScope (s : Stmt) : Scope := match s with
  | .FunctionDef _ _ _ _ _ _ sc _ _ _ => sc
  | _ => { kind := .function, names := [], isGenerator := false, isCoroutine := false }

/-! ### no exception leaves a def -/
abbrev CX0 : CXT := fun _ _ _ _ _ _ => False
abbrev E0 : XK := fun _ _ _ => False
theorem pass0 {X : Cx} : Passes CX0 X E0 := fun _ _ _ _ _ _ _ h => h.elim

/-! ### a def (or method) of the text as it stands behind the top -/
structure Fun (K : PySem.W.Frag) (x qual : Str) (st : Stmt) (f : Addr) (fd : FuncData) : Prop where
  ex : ∃ (oc : Value) (od : Option Addr) (kV doc pm : Value) (an : Option Addr) (cdv ct : Value) (osl : Array (Option Value)),
    fd = PySem.W.fnOf x qual (defArgs st) (defBody st) (defScope st) .none kV doc pm an cdv ct ∧ K.lookup f = some ⟨oc, od, .func fd, osl⟩ ∧ PySem.W.codeIn K cdv qual = true
  kp : PySem.W.keepIn K (.ref f) = true
section
variable {P : Program} {w : World} {K : PySem.W.Frag} {mg : Str → Option Value} {base : Heap}
/-- THE RULE for a def: its body as a term of rules, and the reading of that term -/
theorem Fun.ok {x qual : Str} {st : Stmt} {f : Addr} {fd : FuncData} {N ps : List Str} {k : Nat} {sp : Sp} (F : Fun K x qual st f fd) (S : FnScope N ps (defScope st)) (len : ∀ vs H Q E, sp vs H Q E → vs.length = ps.length)
    (hbody : ∀ (cdv : Value) (A : Around) (outer : List Env) (s : Shared) (H : Hp) (vs : List V) (Q : VK) (E : XK), Room k (A.deeper (envOfC qual (defScope st) s.heap.objs.size f cdv)) → sp vs H Q E →
      ∃ t, PSs (cxOf CX0 P w K mg base N qual (defScope st) f cdv A outer s H E).nox (defBody st) t ∧ t { nx := fun _ H' => Q .non H', rt := Q } (start N vs) H) : FnOk P w K mg base CX0 (k + 1) f fd ps sp := by
  obtain ⟨oc, od, kV, doc, pm, an, cdv, ct, osl, rfl, lk, hcd⟩ := F.ex
  refine fn_of lk hcd S len fun A outer s H vs Q E hr hsp => ?_
  obtain ⟨t, h, q⟩ := hbody cdv A outer s H vs Q E hr hsp
  exact ⟨t, h.nox, q⟩
/-- how its arguments bind (no defaults): h is «fun _ _ _ _ _ _ us hl => match us, hl with | [_, _], _ => rfl», one _ a parameter -/
theorem Fun.binds {x qual : Str} {st : Stmt} {f : Addr} {fd : FuncData} {ps : List Str} (F : Fun K x qual st f fd)
    (h : ∀ (kV doc pm : Value) (an : Option Addr) (cdv ct : Value) (us : List Value), us.length = ps.length → bindArgs (PySem.W.fnOf x qual (defArgs st) (defBody st) (defScope st) .none kV doc pm an cdv ct) ⟨us, []⟩ = pure (ps.zip us)) : Binds K fd ps [] := by
  obtain ⟨oc, od, kV, doc, pm, an, cdv, ct, osl, rfl, lk, hcd⟩ := F.ex
  exact .all (h kV doc pm an cdv ct)
theorem fun_mk {x qual : Str} {st : Stmt} {f : Addr} {oc : Value} {od an : Option Addr} {osl : Array (Option Value)} {kV doc pm cdv ct : Value} (l : K.lookup f = some ⟨oc, od, .func (PySem.W.fnOf x qual (defArgs st) (defBody st) (defScope st) .none kV doc pm an cdv ct), osl⟩)
    (c : PySem.W.codeIn K cdv qual = true) (k : PySem.W.keepIn K (.ref f) = true) : Fun K x qual st f (PySem.W.fnOf x qual (defArgs st) (defBody st) (defScope st) .none kV doc pm an cdv ct) := ⟨⟨oc, od, kV, doc, pm, an, cdv, ct, osl, rfl, l, c⟩, k⟩
end
theorem hu_of {A : Around} {k : Nat} (hr : Room k A) : A.units + 1 < cLine := Nat.lt_of_le_of_lt (Nat.add_le_add_left (by decide : 1 ≤ 64) _) hr.units
/-! ### expressions in short: the name that stands in the i-th slot -/
section
variable {X : Cx}
theorem pv (i : Nat) {x : Str} {pos : Pos} (hN : X.N[i]? = some x := by rfl) (hv : Vis X.env.scope x := by first | exact Or.inl rfl | exact Or.inr (Or.inl rfl) | exact Or.inr (Or.inr rfl)) (hd : (x == ("__debug__" : Str)) = false := by decide)
    (hcd : (x == ("__classdict__" : Str)) = false := by decide) : PE X (.Name x pos) (tVar i) := pe_var hN hv hd hcd
end

/-! ### tests -/
theorem iteF {A B : Prop} (h : B) : if false = true then A else B := by
  rw [if_neg Bool.false_ne_true]
  exact h
theorem iteT {A B : Prop} (h : A) : if true = true then A else B := by
  rw [if_pos rfl]
  exact h
theorem ite2 {c A B : Prop} [Decidable c] (h1 : c → A) (h2 : ¬ c → B) : if c then A else B := by
  by_cases h : c
  · rw [if_pos h]
    exact h1 h
  · rw [if_neg h]
    exact h2 h
/-! ### heaps -/
/-- all that was tracked is as it was -/
def Same (H H' : Hp) : Prop := ∀ b o, H b = some o → H' b = some o
theorem Same.refl (H : Hp) : Same H H := fun _ _ h => h
theorem Same.trans {H H1 H2 : Hp} (a : Same H H1) (b : Same H1 H2) : Same H H2 := fun c o h => b c o (a c o h)
theorem Same.free {H H' : Hp} (e : Same H H') {l : Addr} (h : H' l = Option.none) : H l = Option.none := by
  cases q : H l with
  | none => rfl
  | some o =>
    rw [e l o q] at h
    cases h
theorem Same.seq {K : PySem.W.Frag} {H H' : Hp} {a : Addr} {xs : List V} (e : Same H H') (h : SqL K H a xs) : SqL K H' a xs := by
  rcases h with (h | ⟨o, h⟩) | h
  · exact .inl (.inl (e _ _ h))
  · exact .inl (.inr ⟨o, e _ _ h⟩)
  · exact .inr h

end L2

set_option Elab.async false
set_option linter.all false
set_option maxRecDepth 100000
/-! A list comprehension of one clause, over the hand layer's judgements -/
namespace L2
open PySem PySem.Spec PyProof.Rows

/-- the cells that the free names of a comprehension's scope have in the env around -/
theorem closure_go (env : Env) : ∀ (names : List (Str × NameKind)) (cs : List (Str × Addr)), (∀ x ∈ names, x.2 = .free → ∃ c, env.cells.lookup x.1 = some c) → (∀ x c, cs.lookup x = some c → env.cells.lookup x = some c) →
    ∃ cl, (forIn names cs fun (p : Str × NameKind) (r : List (Str × Addr)) => (if (p.2 == NameKind.free) = true then do let c ← cellOf env p.1; pure (ForInStep.yield ((p.1, c) :: r)) else pure (ForInStep.yield r) : Sem (ForInStep (List (Str × Addr))))) = (pure cl : Sem (List (Str × Addr))) ∧
      (∀ x c, cl.lookup x = some c → env.cells.lookup x = some c) ∧ (∀ x, (∃ c, cs.lookup x = some c) → ∃ c, cl.lookup x = some c) ∧ ∀ x ∈ names, x.2 = .free → ∃ c, cl.lookup x.1 = some c
  | [], cs, _, h => ⟨cs, rfl, h, fun _ z => z, fun _ z => nomatch z⟩
  | (n, k) :: r, cs, hn, h => by
    by_cases e : k = .free
    · subst e
      obtain ⟨c, hc⟩ := hn (n, .free) List.mem_cons_self rfl
      have h' : ∀ x c', ((n, c) :: cs).lookup x = some c' → env.cells.lookup x = some c' := fun x c' q => by
        rw [List.lookup_cons] at q
        cases ex : x == n with
        | true =>
          rw [ex] at q
          have : x = n := by simpa using ex
          subst this
          cases q
          exact hc
        | false => rw [ex] at q; exact h x c' q
      obtain ⟨cl, e1, e2, e3, e4⟩ := closure_go env r ((n, c) :: cs) (fun x hx => hn x (List.mem_cons_of_mem _ hx)) h'
      refine ⟨cl, ?_, e2, fun x ⟨c', q⟩ => e3 x ?_, fun x hx hf => ?_⟩
      · rw [List.forIn_cons]
        rw [if_pos (show (((n, NameKind.free) : Str × NameKind).2 == NameKind.free) = true from by rfl)]
        unfold cellOf
        rw [hc]
        exact e1
      · rw [List.lookup_cons]
        cases ex : x == n with
        | true => exact ⟨c, rfl⟩
        | false => exact ⟨c', q⟩
      · rcases List.mem_cons.mp hx with z | z
        · subst z
          exact e3 n ⟨c, by rw [List.lookup_cons]; simp⟩
        · exact e4 x z hf
    · obtain ⟨cl, e1, e2, e3, e4⟩ := closure_go env r cs (fun x hx => hn x (List.mem_cons_of_mem _ hx)) h
      refine ⟨cl, ?_, e2, e3, fun x hx hf => ?_⟩
      · rw [List.forIn_cons]
        rw [if_neg (show ¬ (((n, k) : Str × NameKind).2 == NameKind.free) = true by simpa using e)]
        exact e1
      · rcases List.mem_cons.mp hx with z | z
        · subst z
          exact absurd hf e
        · exact e4 x z hf
theorem closure_ex {env : Env} {sc : Scope} (hn : ∀ x ∈ sc.names, x.2 = .free → ∃ c, env.cells.lookup x.1 = some c) :
    ∃ cl, closureFor sc env = pure cl ∧ (∀ x c, cl.lookup x = some c → env.cells.lookup x = some c) ∧ ∀ x ∈ sc.names, x.2 = .free → ∃ c, cl.lookup x.1 = some c := by
  obtain ⟨cl, e1, e2, _, e4⟩ := closure_go env sc.names [] hn (fun x c z => by cases z)
  refine ⟨cl, ?_, e2, e4⟩
  unfold closureFor
  exact (congrArg (fun (m : Sem (List (Str × Addr))) => m >>= fun r => pure r) e1)

theorem lookup_mem' {κ : Type} : ∀ {l : List (Str × κ)} {x : Str} {k : κ}, l.lookup x = some k → (x, k) ∈ l
  | [], _, _, h => by cases h
  | (n, k') :: r, x, k, h => by
    rw [List.lookup_cons] at h
    cases e : x == n with
    | true =>
      rw [e] at h
      have : x = n := by simpa using e
      subst this
      cases h
      exact List.mem_cons_self
    | false =>
      rw [e] at h
      exact List.mem_cons_of_mem _ (lookup_mem' h)
def relK (env : Env) (x : Str) (k : NameKind) : NameKind := if (k == NameKind.free && env.scope.kind == .function && env.kindOf x == some .cell) = true then .cell else k
theorem lookup_rel {env : Env} : ∀ {names : List (Str × NameKind)} {x : Str},
    (names.map fun (p : Str × NameKind) => match p with | (n, k) => if (k == NameKind.free && env.scope.kind == .function && env.kindOf n == some .cell) = true then (n, NameKind.cell) else (n, k)).lookup x = (names.lookup x).map (relK env x)
  | [], x => rfl
  | (n, k) :: r, x => by
    rw [List.map_cons]
    by_cases e : x = n
    · subst e
      dsimp only
      by_cases c : (k == NameKind.free && env.scope.kind == .function && env.kindOf x == some .cell) = true
      · rw [if_pos c]
        have z : relK env x k = .cell := if_pos c
        simp [List.lookup_cons, z]
      · rw [if_neg c]
        have z : relK env x k = k := if_neg c
        simp [List.lookup_cons, z]
    · have e' : (x == n) = false := by simpa using e
      dsimp only
      rw [List.lookup_cons (a := x) (b := k), e']
      show _ = (r.lookup x).map (relK env x)
      rw [← lookup_rel]
      by_cases c : (k == NameKind.free && env.scope.kind == .function && env.kindOf n == some .cell) = true
      · rw [if_pos c, List.lookup_cons, e']
      · rw [if_neg c, List.lookup_cons, e']
theorem kindOf_rel {sc : Scope} {env : Env} {cl : List (Str × Addr)} {C : Addr} {x : Str} : (compEnvC sc cl C env).kindOf x = (sc.names.lookup x).map (relK env x) := lookup_rel
/-- what a comprehension's scope asks, decided once -/
def ixOk (N : List Str) (sc0 sc : Scope) (N' : List Str) (ix : List (Option Nat)) : Bool :=
  sc.kind == .function && ix.length == N'.length &&
  sc.names.all (fun p => p.2 != .cell && (p.2 != .free || (sc0.names.lookup p.1 == some .cell || sc0.names.lookup p.1 == some .free)) && (p.2 != .local || sc.names.lookup p.1 == some .local)) &&
  (List.range N'.length).all fun j => match ix[j]?, N'[j]? with
    | some (some i), some x => N[i]? == some x && sc.names.lookup x == some .free
    | _, _ => true
theorem ixOk_spec {N : List Str} {sc0 sc : Scope} {N' : List Str} {ix : List (Option Nat)} (h : ixOk N sc0 sc N' ix = true) :
    sc.kind = .function ∧ ix.length = N'.length ∧ (∀ p ∈ sc.names, p.2 ≠ .cell) ∧ (∀ p ∈ sc.names, p.2 = .free → sc0.names.lookup p.1 = some .cell ∨ sc0.names.lookup p.1 = some .free) ∧
      (∀ p ∈ sc.names, p.2 = .local → sc.names.lookup p.1 = some .local) ∧ ∀ (j i : Nat) (x : Str), ix[j]? = some (some i) → N'[j]? = some x → N[i]? = some x ∧ sc.names.lookup x = some .free := by
  unfold ixOk at h
  simp only [Bool.and_eq_true, List.all_eq_true, beq_iff_eq, bne_iff_ne, Bool.or_eq_true, ne_eq] at h
  obtain ⟨⟨⟨h1, h2⟩, h3⟩, h4⟩ := h
  refine ⟨h1, h2, fun p hp => (h3 p hp).1.1, fun p hp hf => ?_, fun p hp hl => ?_, fun j i x e1 e2 => ?_⟩
  · rcases (h3 p hp).1.2 with z | z
    · exact absurd hf z
    · exact z
  · rcases (h3 p hp).2 with z | z
    · exact absurd hl z
    · exact z
  · have hj : j < N'.length := (List.getElem?_eq_some_iff.mp e2).1
    have := h4 j (List.mem_range.mpr hj)
    rw [e1, e2] at this
    simpa using this

def cxC (X : Cx) (sc : Scope) (N' : List Str) (C : Addr) (cl : List (Str × Addr)) (s : Shared) (H : Hp) (fp : List Addr) : Cx :=
  { X with N := N', s₀ := s, H₀ := H, env := compEnvC sc cl C X.env, outer := X.stack, stack := X.stack, ex := fp, fn := fun _ => false, pn := [], xe := fun _ _ => False }
def st0 (ix : List (Option Nat)) (σ : St) : St := ix.map fun o => match o with | some i => (σ[i]?).getD none | none => none
def ExtL : St → St → Prop
  | [], [] => True
  | none :: r, _ :: r' => ExtL r r'
  | some v :: r, w :: r' => w = some v ∧ ExtL r r'
  | _, _ => False
theorem ExtL.spec : ∀ {a b : St}, ExtL a b → a.length = b.length ∧ ∀ (i : Nat) v, a[i]? = some (some v) → b[i]? = some (some v)
  | [], [], _ => ⟨rfl, fun _ _ z => by simp at z⟩
  | [], _ :: _, h => h.elim
  | none :: r, [], h => h.elim
  | some v :: r, [], h => h.elim
  | none :: r, w :: r', h => by
    obtain ⟨e1, e2⟩ := ExtL.spec (a := r) (b := r') h
    refine ⟨by simp [e1], fun i v z => ?_⟩
    cases i with
    | zero => simp at z
    | succ i => simpa using e2 i v (by simpa using z)
  | some u :: r, w :: r', h => by
    obtain ⟨e0, h⟩ := h
    obtain ⟨e1, e2⟩ := ExtL.spec (a := r) (b := r') h
    refine ⟨by simp [e1], fun i v z => ?_⟩
    cases i with
    | zero => simp at z; subst z; simp [e0]
    | succ i => simpa using e2 i v (by simpa using z)
/-- the tests behind `if` -/
def PF (X : Cx) (ifs : List Expr) (t : TT) : Prop :=
  ∀ (pins : List (Addr × Obj)) (s : Shared) (σ : St) (H : Hp) (Q : Bool → Hp → Prop), Inv X pins σ H s → t σ H Q →
    wpAny (model X.prog X.w) X.A (forIn ifs true fun c r => if r = true then do let ok ← isTrue c X.env (eval c X.env); pure (ForInStep.yield ok) else pure (ForInStep.yield r)) (TP X pins σ Q) X.xe s
def tAny : TT := fun _ H Q => Q true H
theorem pf_nil {X : Cx} : PF X [] tAny := fun pins s σ H Q I h => wpAny_tests_nil ⟨H, I, h⟩
theorem pf_one {X : Cx} {c : Expr} {t : TT} (h : PT X c t) : PF X [c] t := fun pins s σ H Q I q => wpAny_tests_one (h pins s σ H Q I q)

/-- the turns of a comprehension, by a word W of the turn, a measure, the list so far -/
def LcGo (J : It) (g : TG) (tf : TT) (te : TE) (ix : List (Option Nat)) (σ : St) (H1 : Hp) (Q : VK) : Prop := ∃ W : Nat → Nat → List V → Hp → Prop, (∃ m, W 0 m [] H1) ∧ ∀ i m ys H, W i m ys H →
  (J.stop i H ∧ ys.length ≤ sizeLine ∧ ∀ D, H D = none → Q (.ref D) (upd H D (.lst ys))) ∨
  (J.go i H ∧ ys.length ≤ sizeLine ∧ ∀ x H', J.yld i H x H' → g x (st0 ix σ) H' fun σ2 H2 => ExtL (st0 ix σ) σ2 ∧ tf σ2 H2 fun b H3 => if b = true then te σ2 H3 fun y H4 => ∃ m', m' < m ∧ W (i + 1) m' (ys ++ [y]) H4 else ∃ m', m' < m ∧ W (i + 1) m' ys H3)
def tLC (wi : TI) (g : TG) (tf : TT) (te : TE) (ix : List (Option Nat)) : TE := fun σ H Q => wi σ H fun J H1 => LcGo J g tf te ix σ H1 Q
section
variable {X : Cx} {tg elt iter : Expr} {ifs : List Expr} {sc : Scope} {N' : List Str} {ix : List (Option Nat)} {pins : List (Addr × Obj)} {σ : St} {H2 : Hp} {s2 : Shared} {fp : List Addr} {cl : List (Str × Addr)} {C : Addr} {pos : Pos}
/-- the block's context is in order -/
theorem cxC_ok (I : Inv X pins σ H2 s2) (hix : ixOk X.N X.env.scope sc N' ix = true) (e2 : ∀ x c, cl.lookup x = some c → X.env.cells.lookup x = some c) (e3 : ∀ x ∈ sc.names, x.2 = .free → ∃ c, cl.lookup x.1 = some c)
    (f2 : ∀ b ∈ fp, FpOk X pins H2 b) (fo : ∀ b ∈ fp, ∃ o, s2.heap.get? b = some o) (hC : s2.heap.objs.size ≤ C) : (cxC X sc N' C cl s2 H2 fp).Ok := by
  obtain ⟨k1, _, k3, _, _, _⟩ := ixOk_spec hix
  refine ⟨I.ok.mod, k1, I.ok.glob, I.ok.blt, hC, fun x y c a b => I.ok.inj x y c (e2 x c a) (e2 y c b), fun x hx => ?_, fun x c z => (by cases z), I.ok.hd, I.ok.frames, .inl rfl, fun b hb => ?_, I.bs, Nat.le_trans I.ok.bsz I.sz, fun b o e hb => ?_, fun b hb hf => ?_, I.stack, I.stkFree⟩
  · have hx' : (compEnvC sc cl C X.env).kindOf x = some .cell ∨ (compEnvC sc cl C X.env).kindOf x = some .free := hx
    rw [kindOf_rel] at hx'
    cases q : sc.names.lookup x with
    | none => rw [q] at hx'; rcases hx' with z | z <;> cases z
    | some k =>
      have hm := lookup_mem' q
      have hf : k = .free := by
        rw [q] at hx'
        have nk := k3 _ hm
        cases k with
        | free => rfl
        | cell => exact absurd rfl nk
        | _ => rcases hx' with z | z <;> (simp [relK] at z)
      exact e3 (x, k) hm hf
  · obtain ⟨o, ho⟩ := fo b hb
    exact ⟨Nat.ne_of_lt (Nat.lt_of_lt_of_le (Heap.lt_size ho) hC), fun x c q => (f2 b hb).2.2.2.2.1 x c (e2 x c q)⟩
  · have hb' : b ∈ fp := hb
    rcases (f2 b hb').2.2.2.1 with z | z
    · exact I.ok.noex b o e z
    · exact absurd (Nat.lt_of_lt_of_le (Heap.lt_size e) (Nat.le_trans I.ok.bsz z)) (Nat.lt_irrefl _)
  · have hb' : b ∈ fp := hb
    rcases List.mem_cons.mp (I.stkSub b hf) with z | z
    · exact (f2 b hb').2.1 z
    · exact (f2 b hb').2.2.1 z
end
section
variable {X : Cx} {tg elt iter : Expr} {ifs : List Expr} {sc sc0 : Scope} {N N' : List Str} {ix : List (Option Nat)} {pos : Pos} {wi : TI} {g : TG} {tf : TT} {te : TE}
/-- what is known where the list is made and the block's own names still stand at C -/
structure LcEnd (X : Cx) (pins : List (Addr × Obj)) (σ : St) (H : Hp) (s : Shared) (C : Addr) : Prop where
  inv : Inv X pins σ H s
  ns : ∃ m, s.heap.Ns C m
  free : H C = none
  loc : C ≠ X.env.locals
  cel : ∀ x c, X.env.cells.lookup x = some c → c ≠ C
  abv : X.s₀.heap.objs.size ≤ C
  pin : ∀ p ∈ X.pn ++ pins, p.1 ≠ C
theorem LcEnd.gone {pins : List (Addr × Obj)} {σ : St} {H : Hp} {s : Shared} {C : Addr} {h' : Heap} (L : LcEnd X pins σ H s C) (sb : Heap.SameBut C s.heap h') : Inv X pins σ H { s with heap := h' } :=
  L.inv.turned (it := C) (t' := s.toks) (fun b o hb e => (sb.2 b hb).trans e) L.free L.loc (.inr L.abv) L.cel L.pin
set_option maxHeartbeats 2000000 in
theorem lc_core {pins : List (Addr × Obj)} {σ : St} {H : Hp} {s : Shared} {Q : VK} {use : Option (Value → Sem Unit)} {Qf : Value → Shared → Prop} {cpos : Pos} (hc : X.calm = true) (hix : ixOk X.N X.env.scope sc N' ix = true) (hi : PI X tg iter wi)
    (hg : ∀ C cl s H fp, PG (cxC X sc N' C cl s H fp) tg g) (hf : ∀ C cl s H fp, PF (cxC X sc N' C cl s H fp) ifs tf) (he : ∀ C cl s H fp, PE (cxC X sc N' C cl s H fp) elt te)
    (hs : ∀ x, foldedSetIterable iter X.env x = pure x) (I : Inv X pins σ H s) (h : tLC wi g tf te ix σ H Q)
    (hend : ∀ (C D : Addr) (H' : Hp) (s' : Shared), LcEnd X pins σ H' s' C → Q (.ref D) H' → compPost (model X.prog X.w) X.A X.xe use Qf (.ref D) C (.ok .next) s') :
    wpAny (model X.prog X.w) X.A (comprehension (.ListComp elt [⟨tg, iter, ifs, 0⟩] sc pos) sc X.env cpos (newList []) false (eval iter X.env) use) Qf X.xe s := by
  obtain ⟨hk, hlen, hcell, hfreeX, hnames, hat⟩ := ixOk_spec hix
  obtain ⟨cl, e1, e2, e3⟩ := closure_ex (env := X.env) (sc := sc) (fun x hx hf => I.ok.has x.1 (hfreeX x hx hf))
  refine wpAny_comprehension_free (use := use) (cl := cl) rfl hs e1 hk hnames (thn (hi pins s σ H _ I h) fun v s1 h1 => thn h1 fun itv s2 h2 => ?_)
  obtain ⟨it, fp, tn, J, H2, e, I2, T, st2, f2, W, ⟨m0, w0⟩, turn⟩ := h2
  subst e
  refine wpAny_newObj_type (wpAny_newFunctionEnv hcell (by intro y hy; simp at hy) (fun h₁ hns₁ hsb₁ => ?_) hk)
  dsimp only at hns₁ hsb₁ ⊢
  generalize hH2 : s2.heap.push { cls := .type "list", dict := none, data := .seq ([] : List Value).toArray } = G2 at hns₁ hsb₁ ⊢
  have hCs : G2.objs.size = s2.heap.objs.size + 1 := by rw [← hH2, Heap.size_push]
  have hDC : s2.heap.objs.size ≠ G2.objs.size := by rw [hCs]; exact Nat.ne_of_lt (Nat.lt_succ_self _)
  have hCle : s2.heap.objs.size ≤ G2.objs.size := by rw [hCs]; exact Nat.le_succ _
  have belowC : ∀ b, b < s2.heap.objs.size → b ≠ G2.objs.size := fun b hb => by rw [hCs]; exact Nat.ne_of_lt (Nat.lt_succ_of_lt hb)
  have belowD : ∀ b, b < s2.heap.objs.size → b ≠ s2.heap.objs.size := fun b hb => Nat.ne_of_lt hb
  have old : ∀ b o, s2.heap.get? b = some o → h₁.get? b = some o := fun b o e => hsb₁.extBut b o (belowC b (Heap.lt_size e)) (Heap.get?_push_of_some _ (hH2 ▸ Heap.get?_push_of_some _ e))
  have hacc : h₁.get? s2.heap.objs.size = some { cls := .type "list", data := .seq ([] : List Value).toArray } := hsb₁.extBut _ _ hDC (Heap.get?_push_of_some _ (hH2 ▸ Heap.get?_push_size _ rfl))
  have fo : ∀ b ∈ fp, ∃ o, s2.heap.get? b = some o := fun b hb => let ⟨o, ho, _⟩ := T.obj _ _ st2 b hb; ⟨o, ho⟩
  have fD : ∀ b ∈ fp, b ≠ s2.heap.objs.size := fun b hb => let ⟨o, ho⟩ := fo b hb; belowD b (Heap.lt_size ho)
  have ok' : (cxC X sc N' G2.objs.size cl s2 H2 fp).Ok := cxC_ok I2 hix e2 e3 f2 fo hCle
  have HD : H2 s2.heap.objs.size = none := I2.hok.fresh (Nat.le_refl _)
  have HC : H2 G2.objs.size = none := I2.hok.fresh hCle
  have I4 : Inv (cxC X sc N' G2.objs.size cl s2 H2 fp) [] (st0 ix σ) H2 { s2 with heap := h₁, toks := s2.toks + ([] : List (Str × Value)).length } := by
    refine ⟨ok', rfl, I2.bare, Un.kept old, ⟨_, hns₁, fun j x v a b c => ?_⟩, fun x c q => ?_, HC, fun x c q => I2.freeC x c (e2 x c q), fun p hp => (by cases hp), I2.hok.kept old, ?_⟩
    · -- a name of the block that stands for one around
      have a' : N'[j]? = some x := a
      have b' : (ix.map fun o => match o with | some i => (σ[i]?).getD none | none => none)[j]? = some (some v) := b
      rw [List.getElem?_map] at b'
      cases q : ix[j]? with
      | none => rw [q] at b'; cases b'
      | some o =>
        rw [q] at b'
        cases o with
        | none => cases b'
        | some i =>
          obtain ⟨n1, n2⟩ := hat j i x q a'
          have b'' : (σ[i]?).getD none = some v := Option.some.inj b'
          have sv : σ[i]? = some (some v) := by
            cases z : σ[i]? with
            | none => rw [z] at b''; cases b''
            | some y => rw [z] at b''; exact congrArg some b''
          obtain ⟨m, hn, hl⟩ := I2.loc
          have kx := hfreeX (x, .free) (lookup_mem' n2) rfl
          obtain ⟨u, r, lk⟩ := hl i x v n1 sv (.inr kx)
          refine ⟨u, r, .inr ⟨?_, ?_⟩⟩
          · show (compEnvC sc cl G2.objs.size X.env).kindOf x = some .cell ∨ (compEnvC sc cl G2.objs.size X.env).kindOf x = some .free
            rw [kindOf_rel, n2]
            show some (relK X.env x .free) = some .cell ∨ some (relK X.env x .free) = some .free
            unfold relK
            split
            · exact .inl rfl
            · exact .inr rfl
          · obtain ⟨c1, hc1⟩ := e3 (x, .free) (lookup_mem' n2) rfl
            refine ⟨c1, hc1, ?_⟩
            have hc2 := e2 x c1 hc1
            rcases lk with ⟨z, _⟩ | ⟨_, c, hcc, hcl⟩
            · have z' : X.env.scope.names.lookup x = some .local := z
              rcases kx with y | y <;> (rw [y] at z'; cases z')
            · rw [hc2] at hcc; cases hcc
              obtain ⟨o, ho, hd⟩ := hcl
              exact ⟨o, old c1 o ho, hd⟩
    · obtain ⟨v, o, ho, hd⟩ := I2.cell x c (e2 x c q)
      exact ⟨v, o, old c o ho, hd⟩
    · show (ix.map _).length = N'.length
      rw [List.length_map, hlen]
  have cellD : ∀ x c, cl.lookup x = some c → c ≠ s2.heap.objs.size := fun x c q z => by
    obtain ⟨v, o, ho, hd⟩ := I2.cell x c (e2 x c q)
    exact belowD c (Heap.lt_size ho) z
  have loop : ∀ s₃ : Shared, s₃ = { s2 with heap := h₁, toks := s2.toks + ([] : List (Str × Value)).length } →
      codeAny (model X.prog X.w) X.A (.compLoop (.ListComp elt [⟨tg, iter, ifs, 0⟩] sc pos) 0 (.ref it) (.ref s2.heap.objs.size) (compEnvC sc cl G2.objs.size X.env))
        (compPost (model X.prog X.w) X.A X.xe use Qf (.ref s2.heap.objs.size) G2.objs.size) s₃ := by
    rintro s₃ rfl
    refine codeAny_loop rfl (fun n s' => ∃ i ys H' its k, Inv (cxC X sc N' G2.objs.size cl s2 H2 fp) [] (st0 ix σ) H' s' ∧ tn i s'.heap ∧ (∀ b ∈ fp, H' b = none) ∧ H' s2.heap.objs.size = none ∧
      Vals ys its ∧ s'.heap.get? s2.heap.objs.size = some { cls := .type "list", data := .seq its.toArray k } ∧ W i n ys H') ?_ m0
      ⟨0, [], H2, [], _, I4, T.keep _ _ _ st2 (fun b _ o e => old b o e), fun b hb => (f2 b hb).1, HD, .nil, hacc, w0⟩
    rintro n s5 ⟨i, ys, H5, its, k, I5, st5, fr5, hD5, vv, oD, w5⟩
    show wpAny _ X.A ((compTurn (.ListComp elt [⟨tg, iter, ifs, 0⟩] sc pos) 0 (.ref it) (.ref s2.heap.objs.size) (compEnvC sc cl G2.objs.size X.env)).onRaise (fun x => do noteFrame x (compEnvC sc cl G2.objs.size X.env); theTreesLotGoes x)) _ _ s5
    refine wpAny_noted ?_
    rw [compTurn_list]
    have I5p : Inv (cxC X sc N' G2.objs.size cl s2 H2 fp) [(s2.heap.objs.size, { cls := .type "list", data := .seq its.toArray k })] (st0 ix σ) H5 s5 := I5.pins_of fun p hp => by
      have hp' : p = (s2.heap.objs.size, { cls := .type "list", data := .seq its.toArray k }) := by simpa using hp
      subst hp'
      refine ⟨oD, hD5, hDC, fun hb => ?_, fun v z => (by cases z)⟩
      obtain ⟨_, o, ho, _⟩ := I2.stack.mem (show s2.heap.objs.size ∈ frs X.stack from hb)
      exact Nat.lt_irrefl _ (Heap.lt_size ho)
    have fpk : ∀ {H' : Hp}, (∀ b ∈ fp, H' b = none) → ∀ b ∈ fp, FpOk (cxC X sc N' G2.objs.size cl s2 H2 fp) [(s2.heap.objs.size, ({ cls := .type "list", data := .seq its.toArray k } : Obj))] H' b := fun {H'} hn b hb => by
      refine ⟨hn b hb, (ok'.exf b hb).1, ok'.exfs b hb, .inl hb, (ok'.exf b hb).2, fun p hp => ?_⟩
      have hp' : p = (s2.heap.objs.size, ({ cls := .type "list", data := .seq its.toArray k } : Obj)) := by
        have z : p ∈ ([] : List (Addr × Obj)) ++ [(s2.heap.objs.size, ({ cls := .type "list", data := .seq its.toArray k } : Obj))] := hp
        simpa using z
      subst hp'
      exact (fD b hb).symm
    rcases turn i n ys H5 w5 with ⟨stop, hz, qn⟩ | ⟨go, hz, step⟩
    · refine wpAny_bind (wpAny_standAt (wpAny_bind (wpAny_mono (T.done (cxC X sc N' G2.objs.size cl s2 H2 fp) rfl rfl rfl hc i _ s5 (st0 ix σ) H5 (fun _ _ => False) I5p (fpk fr5) st5 stop) (fun r s6 ⟨hr, I6⟩ => ?_) fun _ _ f => f.elim)))
      subst hr
      refine wpAny_pure ?_
      obtain ⟨m, hn, _⟩ := I6.loc
      have oD6 : s6.heap.get? s2.heap.objs.size = some { cls := .type "list", data := .seq its.toArray k } := (I6.pin (s2.heap.objs.size, { cls := .type "list", data := .seq its.toArray k }) (by show _ ∈ ([] : List (Addr × Obj)) ++ _; simp)).1
      have u6 : Un (frs X.stack) fp H2 H5 s2.heap s6.heap := I6.base
      have HC5 : H5 G2.objs.size = none := I6.free
      refine hend _ _ (upd H5 s2.heap.objs.size (.lst ys)) s6 ⟨?_, ⟨m, hn⟩, by rw [upd_ne hDC.symm]; exact HC5, (belowC _ I2.lt).symm, fun x c q => ?_, Nat.le_trans I2.sz hCle, fun p hp => ?_⟩ (qn _ hD5)
      · refine I2.call' (s' := s6) (ch := fp) I6.os ?_ ?_ I6.bare fun b hb => ⟨(f2 b hb).2.2.2.1, (f2 b hb).2.1, (f2 b hb).2.2.2.2.1, (f2 b hb).2.2.2.2.2⟩
        · refine ⟨fun b o e n nf nx => u6.keep b o e n nf nx, fun b o e n nf nx => u6.slot b o e n nf nx, fun b o e n nx => ?_, fun b o e nx => u6.there b o e nx, fun b xs e => ?_, fun b o u e => ?_, fun b ps e => ?_⟩
          · rw [upd_ne (belowD b (Heap.lt_size e))]; exact u6.free b o e n nx
          · rw [upd_ne (ne_of_none e HD)]; exact u6.tups b xs e
          · rw [upd_ne (ne_of_none e HD)]; exact u6.frzs b o u e
          · rw [upd_ne (ne_of_none e HD)]; exact u6.tbls b ps e
        · intro b o e
          by_cases hb : b = s2.heap.objs.size
          · subst hb
            rw [upd_same] at e; cases e
            exact ⟨hz, its, k, vv, oD6⟩
          · rw [upd_ne hb] at e
            refine (I6.hok b o e).stay (fun c v hcc q => q) (fun c q => ?_) fun c xs q => ?_
            · rw [upd_ne (ne_of_none q hD5)]; exact q
            · rw [upd_ne (ne_of_none q hD5)]; exact q
      · obtain ⟨v, o, ho, hd⟩ := I2.cell x c q
        exact belowC c (Heap.lt_size ho)
      · exact belowC p.1 (Heap.lt_size (I2.pin p hp).1)
    · refine wpAny_bind (wpAny_standAt (wpAny_bind (wpAny_mono (T.item (cxC X sc N' G2.objs.size cl s2 H2 fp) rfl rfl rfl hc i _ s5 (st0 ix σ) H5 (fun _ _ => False) I5p (fpk fr5) st5 go) (fun r s6 ⟨u, hr, h6⟩ => ?_) fun _ _ f => f.elim)))
      subst hr
      refine wpAny_bind (wpAny_mono h6 (fun _ s7 ⟨x, H7, I7, r7, y7, st7, fr7⟩ => ?_) fun _ _ f => f.elim)
      have I7' := I7.pinned (fpk fr7) (T.obj _ _ st7)
      refine wpAny_bind (wpAny_mono (hg _ _ _ _ _ _ s7 (st0 ix σ) H7 x u _ I7' r7 (step x H7 y7)) (fun _ s8 ⟨σ8, H8, I8, x8, q8⟩ => ?_) fun _ _ f => f.elim)
      obtain ⟨xl, xv⟩ := x8.spec
      have keepT : ∀ {σ9 : St} {H9 : Hp} {s9 : Shared} {pl : List (Addr × Obj)}, (∀ p ∈ pinsAt fp s7.heap, p ∈ pl) → Inv (cxC X sc N' G2.objs.size cl s2 H2 fp) pl σ9 H9 s9 → tn (i + 1) s9.heap ∧ ∀ b ∈ fp, H9 b = none := fun {σ9 H9 s9 pl} hp I9 => by
        have pn : ∀ b o, b ∈ fp → s7.heap.get? b = some o → s9.heap.get? b = some o ∧ H9 b = none := fun b o hb e => by
          have := I9.pin (b, o) (List.mem_append_right _ (hp _ (mem_pinsAt hb e)))
          exact ⟨this.1, this.2.1⟩
        refine ⟨T.keep _ _ _ st7 fun b hb o e => (pn b o hb e).1, fun b hb => ?_⟩
        obtain ⟨o, e, _⟩ := T.obj _ _ st7 b hb
        exact (pn b o hb e).2
      refine wpAny_bind (wpAny_mono (hf _ _ _ _ _ _ s8 σ8 H8 _ I8 q8) (fun ok s9 ⟨H9, I9, q9⟩ => ?_) fun _ _ f => f.elim)
      have pD : ∀ {σ9 : St} {H9 : Hp} {s9 : Shared}, Inv (cxC X sc N' G2.objs.size cl s2 H2 fp) ([(s2.heap.objs.size, ({ cls := .type "list", data := .seq its.toArray k } : Obj))] ++ pinsAt fp s7.heap) σ9 H9 s9 →
          s9.heap.get? s2.heap.objs.size = some { cls := .type "list", data := .seq its.toArray k } ∧ H9 s2.heap.objs.size = none := fun {σ9 H9 s9} I9 => by
        have := I9.pin (s2.heap.objs.size, { cls := .type "list", data := .seq its.toArray k }) (List.mem_append_right _ (List.mem_append_left _ (by simp)))
        exact ⟨this.1, this.2.1⟩
      cases ok with
      | false =>
        obtain ⟨m', hm, w9⟩ := (show ∃ m', m' < n ∧ W (i + 1) m' ys H9 from by simpa using q9)
        obtain ⟨t9, fr9⟩ := keepT (fun p hp => List.mem_append_right _ hp) I9
        obtain ⟨oD9, hD9⟩ := pD I9
        refine wpAny_pure ⟨rfl, m', hm, i + 1, ys, H9, its, k, (I9.pins_of (pins' := []) fun p hp => nomatch hp).weak xl xv, t9, fr9, hD9, vv, oD9, w9⟩
      | true =>
        have q9' : te σ8 H9 fun y H4 => ∃ m', m' < n ∧ W (i + 1) m' (ys ++ [y]) H4 := by simpa using q9
        refine wpAny_bind (wpAny_bind (wpAny_mono (he _ _ _ _ _ _ s9 σ8 H9 _ I9 q9') (fun yv sA ⟨y, HA, IA, rA, m', hm, wA⟩ => ?_) fun _ _ f => f.elim))
        obtain ⟨oDA, hDA⟩ := pD IA
        have hsz : its.toArray.size ≤ sizeLine := by rw [List.size_toArray, ← vv.length]; exact hz
        refine wpAny_bind (wpAny_list_append_plain (hsz := hsz) ⟨_, oDA⟩ fun h9 pl9 sb9 => ?_)
        have IB : Inv (cxC X sc N' G2.objs.size cl s2 H2 fp) (pinsAt fp s7.heap) σ8 HA sA := IA.pins_of fun p hp => IA.pin p (List.mem_append_right _ (List.mem_append_right _ hp))
        have IC : Inv (cxC X sc N' G2.objs.size cl s2 H2 fp) (pinsAt fp s7.heap) σ8 HA { sA with heap := h9 } := IB.turned (it := s2.heap.objs.size) (t' := sA.toks) (fun b o hb e => (sb9.2 b hb).trans e) hDA hDC (.inr (Nat.le_refl _)) (fun x c q => cellD x c q) fun p hp => by
          have hp' : p ∈ pinsAt fp s7.heap := by
            have z : p ∈ ([] : List (Addr × Obj)) ++ pinsAt fp s7.heap := hp
            simpa using z
          exact fD p.1 (of_pinsAt hp').1
        obtain ⟨t9, fr9⟩ := keepT (fun p hp => hp) IC
        obtain ⟨k', oD'⟩ := pl9
        refine wpAny_pure (wpAny_pure ⟨rfl, m', hm, i + 1, ys ++ [y], HA, its ++ [yv], k', (IC.pins_of (pins' := []) fun p hp => nomatch hp).weak xl xv, t9, fr9, hDA, vv.append (.cons rA .nil), ?_, wA⟩)
        show h9.get? s2.heap.objs.size = _
        rw [oD']
        simp
  exact codeAny_compStart_list (loop _ rfl) (T.self X.A 0 _ _ _ (T.keep _ _ _ st2 (fun b _ o e => old b o e)) (loop _ rfl))
theorem pe_lc (hc : X.calm = true) (hix : ixOk N sc0 sc N' ix = true) (hi : PI X tg iter wi)
    (hg : ∀ C cl s H fp, PG (cxC X sc N' C cl s H fp) tg g) (hf : ∀ C cl s H fp, PF (cxC X sc N' C cl s H fp) ifs tf) (he : ∀ C cl s H fp, PE (cxC X sc N' C cl s H fp) elt te)
    (eN : X.N = N := by rfl) (eS : X.env.scope = sc0 := by rfl) (hs : ∀ x, foldedSetIterable iter X.env x = pure x := by intro _; rfl) :
    PE X (.ListComp elt [⟨tg, iter, ifs, 0⟩] sc pos) (tLC wi g tf te ix) := by
  intro pins s σ H Q I h
  subst eN eS
  rw [eval_ListComp]
  refine lc_core (use := none) hc hix hi hg hf he hs I h fun C D H' s' L q => ?_
  obtain ⟨m, hn⟩ := L.ns
  exact ⟨m, hn, fun h' sb => ⟨.ref D, H', L.gone sb, rfl, q⟩⟩
/-- y = [..]: the list is stored while the block's own names still stand -/
def tSetLC (i : Nat) (t : TE) : TS := fun D σ H => t σ H fun v H1 => D.nx (σ.set i (some v)) H1
theorem ps_setLC {i : Nat} {y : Str} {py spos : Pos} (hN : X.N.Nodup) (hiy : X.N[i]? = some y) (hy : X.env.scope.names.lookup y = some .local) (hc : X.calm = true) (hix : ixOk N sc0 sc N' ix = true) (hi : PI X tg iter wi)
    (hg : ∀ C cl s H fp, PG (cxC X sc N' C cl s H fp) tg g) (hf : ∀ C cl s H fp, PF (cxC X sc N' C cl s H fp) ifs tf) (he : ∀ C cl s H fp, PE (cxC X sc N' C cl s H fp) elt te)
    (eN : X.N = N := by rfl) (eS : X.env.scope = sc0 := by rfl) (hs : ∀ x, foldedSetIterable iter X.env x = pure x := by intro _; rfl)
    (hsw : swapsWith (.ListComp elt [⟨tg, iter, ifs, 0⟩] sc pos) (some (.Name y py)) spos.line X.env = pure true := by rfl) :
    PS X (.Assign [.Name y py] (.ListComp elt [⟨tg, iter, ifs, 0⟩] sc pos) spos) (tSetLC i (tLC wi g tf te ix)) := by
  intro pins s σ H Dn I h
  subst eN eS
  rw [exec_Assign_Name_used _ _ _ _ hsw]
  refine wpAny_bind (wpAny_standAt (wpAny_bind ?_))
  show wpAny _ X.A (do let _ ← comprehension (.ListComp elt [⟨tg, iter, ifs, 0⟩] sc pos) sc X.env _ (newList []) false (eval iter X.env) (some (assign (.Name y py) X.env))) _ _ s
  refine wpAny_bind (wpAny_mono (lc_core (use := some (assign (.Name y py) X.env)) (Qf := fun _ s' => SP X pins Dn .next s') hc hix hi hg hf he hs I h fun C D H' s' L q => ?_) (fun _ s' hq => wpAny_pure (wpAny_pure hq)) fun _ _ e => e)
  show wpAny _ X.A (assign (.Name y py) X.env (.ref D)) _ _ s'
  refine wpAny_assign_Name (store_ok2 L.inv hN hiy (.inl hy) (v := .ref D) rfl (fun s1 I1 hsb => ?_) (.inr hy))
  obtain ⟨a, sb, ha⟩ := hsb
  have haC : C ≠ a := by
    rcases ha with z | z
    · rw [z]; exact L.loc
    · exact (L.cel y a z).symm
  obtain ⟨m, hn⟩ := L.ns
  have L1 : LcEnd X pins (σ.set i (some (.ref D))) H' s1 C := ⟨I1, ⟨m, hn.sameBut sb haC⟩, L.free, L.loc, L.cel, L.abv, L.pin⟩
  exact ⟨m, hn.sameBut sb haC, fun h' sb' => ⟨_, H', L1.gone sb', q⟩⟩
end
end L2
namespace L2
open PySem
/-- behind a turn of a comprehension -/
def Nx (Pv : Nat → List V → Hp → Prop) (n i : Nat) (ys : List V) (H : Hp) : Prop := ∃ m', m' < n - i ∧ (m' = n - (i + 1) ∧ i + 1 ≤ n ∧ Pv (i + 1) ys H)
theorem Nx.mk {Pv : Nat → List V → Hp → Prop} {n i : Nat} {ys : List V} {H : Hp} (h : i < n) (p : Pv (i + 1) ys H) : Nx Pv n i ys H := ⟨n - (i + 1), by omega, rfl, h, p⟩
theorem lc_list {K : PySem.W.Frag} {a : Addr} {xs : List V} {g : TG} {tf : TT} {te : TE} {ix : List (Option Nat)} {σ : St} {H : Hp} {Q : VK} (Pv : Nat → List V → Hp → Prop) (h0 : Pv 0 [] H)
    (hl : ∀ i ys H, i ≤ xs.length → Pv i ys H → SqL K H a xs ∧ ys.length ≤ sizeLine)
    (hs : ∀ i x ys H, xs[i]? = some x → Pv i ys H → g x (st0 ix σ) H fun σ2 H2 => ExtL (st0 ix σ) σ2 ∧ tf σ2 H2 fun b H3 => if b = true then te σ2 H3 fun y H4 => Nx Pv xs.length i (ys ++ [y]) H4 else Nx Pv xs.length i ys H3)
    (hd : ∀ ys H, Pv xs.length ys H → ∀ D, H D = none → Q (.ref D) (upd H D (.lst ys))) :
    LcGo (Itl K a) g tf te ix σ H Q := by
  refine ⟨fun i m ys H => m = xs.length - i ∧ i ≤ xs.length ∧ Pv i ys H, ⟨xs.length, by simp, Nat.zero_le _, h0⟩, ?_⟩
  rintro i m ys H ⟨rfl, hi, p⟩
  obtain ⟨q, hz⟩ := hl i ys H hi p
  by_cases hlt : i < xs.length
  · refine .inr ⟨⟨xs, xs[i], q, by simp [hlt]⟩, hz, fun x H' y => ?_⟩
    obtain ⟨e, y⟩ := y
    subst e
    exact hs i x ys _ (y xs q) p
  · have e : i = xs.length := by omega
    subst e
    exact .inl ⟨⟨xs, q, Nat.le_refl _⟩, hz, hd ys H p⟩
theorem tAny_T {σ : St} {H : Hp} {A B : Hp → Prop} (h : A H) : tAny σ H fun b H3 => if b = true then A H3 else B H3 := by
  show if true = true then A H else B H
  rw [if_pos rfl]
  exact h
end L2

set_option Elab.async false
set_option linter.all false
set_option maxRecDepth 100000
/-! Further rules over the hand layer: a dict of the text's top, a call by a value, sorted, data compared, a list unpacked -/
namespace L2
open PySem PySem.Spec PyProof.Rows

/-! ### a dict of texts that stands at the top -/
def EntOk (w : World) (p : Str × V) (e : DictEntry) : Prop := e.hash = hashStr w p.1 ∧ (∃ t, e.key = .str p.1 t) ∧ RelV p.2 e.val
def TopDict (w : World) (K : PySem.W.Frag) (a : Addr) (kvs : List (Str × V)) : Prop :=
  ∃ (es : Array DictEntry) (ep : Nat), K.lookup a = some { cls := .type "dict", data := .dict es ep } ∧ Paired (EntOk w) kvs es.toList
theorem keys_ent {P : Program} {w : World} : ∀ {kvs : List (Str × V)} {es : List DictEntry}, Paired (EntOk w) kvs es → ∀ e ∈ es, ∃ k, (strKind P w).is k e.key = true ∧ e.hash = (strKind P w).hash k
  | _, _, .nil, _, h => nomatch h
  | (x, y) :: r, e :: es, .cons h t, e', he => by
    rcases List.mem_cons.mp he with z | z
    · subst z
      obtain ⟨h1, ⟨tk, h2⟩, h3⟩ := h
      refine ⟨x, ?_, h1⟩
      rw [h2]
      show Value.isStrOf x (.str x tk) = true
      simp [Value.isStrOf]
    · exact keys_ent t e' z
section
variable {X : Cx}
/-! ### a call by a value of the frame -/
/-! ### sorted, of a list of ints -/
theorem ints_of_vals : ∀ {ns : List Int} {us : List Value}, Vals (ns.map V.int) us → IntsAre us ns
  | [], _, .nil => .nil
  | n :: r, _, .cons h t => by
    obtain ⟨tk, rfl⟩ := h
    exact .cons n tk (ints_of_vals t)
theorem vals_of_ints : ∀ {ns : List Int} {us : List Value}, IntsAre us ns → Vals (ns.map V.int) us
  | _, _, .nil => .nil
  | _, _, .cons n t r => .cons ⟨t, rfl⟩ (vals_of_ints r)
end

/-! ### data -/
mutual
inductive Dt (K : PySem.W.Frag) (H : Hp) : V → PyData → Prop
  | non : Dt K H .non .none
  | bl (b : Bool) : Dt K H (.bl b) (.bool b)
  | int (i : Int) : Dt K H (.int i) (.int i)
  | str (x : Str) : Dt K H (.str x) (.str x)
  | lst {a : Addr} {xs : List V} {ds : List PyData} : SqL K H a xs → DtAll K H xs ds → Dt K H (.ref a) (.list ds)
  | tup {a : Addr} {xs : List V} {ds : List PyData} : SqT K H a xs → DtAll K H xs ds → Dt K H (.ref a) (.tuple ds)
inductive DtAll (K : PySem.W.Frag) (H : Hp) : List V → List PyData → Prop
  | nil : DtAll K H [] []
  | cons {v : V} {d : PyData} {vs : List V} {ds : List PyData} : Dt K H v d → DtAll K H vs ds → DtAll K H (v :: vs) (d :: ds)
end
section
variable {X : Cx} {pins : List (Addr × Obj)} {σ : St} {H : Hp} {s : Shared}
mutual
theorem Dt.reads (I : Inv X pins σ H s) : ∀ {v : V} {d : PyData} {u : Value}, Dt X.K H v d → RelV v u → ∃ as, Reads s.heap u d as
  | _, _, _, .non, r => by cases r; exact ⟨_, .none⟩
  | _, _, _, .bl b, r => by cases r; exact ⟨_, .bool b⟩
  | _, _, _, .int i, r => by obtain ⟨t, rfl⟩ := r; exact ⟨_, .int i t⟩
  | _, _, _, .str x, r => by obtain ⟨t, rfl⟩ := r; exact ⟨_, .str x t⟩
  | _, _, _, .lst hS hA, r => by
    cases r
    obtain ⟨its, rv, ⟨o, n, e, c, dd, hd⟩, hz⟩ := I.list hS
    obtain ⟨as, ha⟩ := DtAll.reads I hA rv
    first
      | exact ⟨_, .list e c hd (by simpa using ha)⟩
      | exact ⟨_, .list e c dd (by simpa using ha)⟩
  | _, _, _, .tup hS hA, r => by
    cases r
    obtain ⟨its, rv, ⟨o, e, c, n, hd⟩, hz⟩ := I.tuple hS
    obtain ⟨as, ha⟩ := DtAll.reads I hA rv
    exact ⟨_, .tuple e c hd (by simpa using ha)⟩
theorem DtAll.reads (I : Inv X pins σ H s) : ∀ {vs : List V} {ds : List PyData} {us : List Value}, DtAll X.K H vs ds → Vals vs us → ∃ as, ReadsAll s.heap us ds as
  | _, _, _, .nil, .nil => ⟨_, .nil⟩
  | _, _, _, .cons h t, .cons r rr => by
    obtain ⟨a1, h1⟩ := Dt.reads I h r
    obtain ⟨a2, h2⟩ := DtAll.reads I t rr
    exact ⟨_, .cons h1 h2⟩
end
end
section
variable {X : Cx}
def rEqD (K : PySem.W.Frag) : R2 := fun x y H Q => ∃ dx dy, Dt K H x dx ∧ Dt K H y dy ∧ dx.canLay0 = true ∧ dy.canLay0 = true ∧ min dx.depth dy.depth ≤ 60 ∧ Q (.bl (PyData.eqv dx dy)) H
def rNeD (K : PySem.W.Frag) : R2 := fun x y H Q => ∃ dx dy, Dt K H x dx ∧ Dt K H y dy ∧ dx.canLay0 = true ∧ dy.canLay0 = true ∧ min dx.depth dy.depth ≤ 60 ∧ Q (.bl (!PyData.eqv dx dy)) H
theorem op_eqD {k : Nat} (hr : Room k X.A) : OpR X (compareOp .Eq) (rEqD X.K) := by
  intro pins s σ H x y v u Q I rx ry h
  obtain ⟨dx, dy, h1, h2, c1, c2, dp, q⟩ := h
  obtain ⟨as, ra⟩ := h1.reads I rx
  obtain ⟨bs, rb⟩ := h2.reads I ry
  exact SeqAt.compareEq_reads ra rb c1 c2 (by have := hr.un; omega) ⟨.bl _, H, I, rfl, q⟩
theorem op_neD {k : Nat} (hr : Room k X.A) : OpR X (compareOp .NotEq) (rNeD X.K) := by
  intro pins s σ H x y v u Q I rx ry h
  obtain ⟨dx, dy, h1, h2, c1, c2, dp, q⟩ := h
  obtain ⟨as, ra⟩ := h1.reads I rx
  obtain ⟨bs, rb⟩ := h2.reads I ry
  exact SeqAt.compareNe_reads ra rb c1 c2 (by have := hr.un; omega) ⟨.bl _, H, I, rfl, q⟩
end
/-! ### a list unpacked -/
section
variable {prog : Program} {w : World} {A : Around} {E : Value → Shared → Prop}
end
section
variable {X : Cx}
end
end L2

set_option Elab.async false
set_option linter.all false
set_option maxRecDepth 100000
/-! Further rules: zip, reversed, xs[::-1], isinstance, list(d) of a dict of the top, split -/
namespace L2
open PySem PySem.Spec PyProof.Rows

/-! ### zip of two lists, unpacked -/
section
variable {X : Cx}
end
/-! ### reversed(xs) -/
section
variable {X : Cx} {tg : Expr}
end
end L2

set_option Elab.async false
set_option linter.all false
set_option maxRecDepth 100000
namespace L2
open PySem PySem.Spec PyProof.Rows
section
variable {X : Cx}
/-! ### isinstance -/
theorem isi_int_int : CallR X (.builtin "isinstance") (fun xs H Q => ∃ i, xs = [.int i, .ty "int"] ∧ Q (.bl true) H) := by
  intro pins s σ H xs us Q I r h
  obtain ⟨i, rfl, q⟩ := h
  cases r with
  | cons r0 rr =>
    cases rr with
    | cons r1 rr =>
      cases rr
      obtain ⟨t, rfl⟩ := r0
      cases r1
      exact IsiPair.int_int ⟨.bl true, H, I, rfl, q⟩
theorem isi_int_bool : CallR X (.builtin "isinstance") (fun xs H Q => ∃ i, xs = [.int i, .ty "bool"] ∧ Q (.bl false) H) := by
  intro pins s σ H xs us Q I r h
  obtain ⟨i, rfl, q⟩ := h
  cases r with
  | cons r0 rr =>
    cases rr with
    | cons r1 rr =>
      cases rr
      obtain ⟨t, rfl⟩ := r0
      cases r1
      exact IsiPair.int_bool ⟨.bl false, H, I.tok _, rfl, q⟩
/-- the name of a builtin type, as an argument -/
theorem pe_ty {x : Str} {n : String} {pos : Pos} (hg : Gl X x) (hm : X.mg x = none) (hv : bootBuiltins x = some (.type n)) (hn : x ≠ "__name__" := by decide) (hd : (x == ("__debug__" : Str)) = false := by decide) : PE X (.Name x pos) (tC (.ty n)) :=
  pe_bltn hg hm hv rfl hn hd
/-! ### list(d), d a dict of the top -/
theorem pairs_ent {P : Program} {w : World} : ∀ {kvs : List (Str × V)} {es : List DictEntry}, Paired (EntOk w) kvs es → ∃ vs : List (Str × Value), Pairs (strKind P w) es vs ∧ vs.map (·.1) = kvs.map (·.1)
  | _, _, .nil => ⟨[], .nil, rfl⟩
  | (x, y) :: r, e :: es, .cons h t => by
    obtain ⟨vs, p, q⟩ := pairs_ent (P := P) t
    obtain ⟨h1, ⟨tk, h2⟩, h3⟩ := h
    refine ⟨(x, e.val) :: vs, .cons ?_ rfl p, by rw [List.map_cons, List.map_cons, q]⟩
    rw [h2]
    show Value.isStrOf x (.str x tk) = true
    simp [Value.isStrOf]
theorem vals_keys {P : Program} {w : World} : ∀ {ks : List Str} {us : List Value}, us.length = ks.length → (∀ (j : Nat) k u, ks[j]? = some k → us[j]? = some u → (strKind P w).is k u = true) → Vals (ks.map V.str) us
  | [], [], _, _ => .nil
  | k :: ks, [], h, _ => by cases h
  | [], u :: us, h, _ => by cases h
  | k :: ks, u :: us, h, hv => by
    refine .cons ?_ (vals_keys (P := P) (w := w) (by simpa using h) fun j k' u' a b => hv (j + 1) k' u' (by simpa using a) (by simpa using b))
    obtain ⟨t, e⟩ := Value.isStrOf_shape (hv 0 k u rfl rfl)
    exact ⟨t, e⟩
theorem call_list_top (hc : X.calm = true) : CallR X (.type "list") (fun xs H Q => ∃ a kvs, xs = [.ref a] ∧ TopDict X.w X.K a kvs ∧ (kvs.map (·.1)).Nodup ∧ (a == sysModules) = false ∧ kvs.length ≤ 1000 ∧ ∀ p, H p = none → Q (.ref p) (upd H p (.lst (kvs.map fun kv => V.str kv.1)))) := by
  intro pins s σ H xs us Q I r h
  obtain ⟨a, kvs, rfl, ⟨es, ep, hk, hp⟩, nd, lo, hz, q⟩ := h
  cases r with
  | cons r0 rr =>
    cases rr
    cases r0
    have ho := I.kIn a _ hk
    obtain ⟨vs, pv, ek⟩ := pairs_ent (P := X.prog) hp
    have hat : s.heap.DictAt (strKind X.prog X.w) a vs ep := ⟨_, es, ho, ⟨rfl, rfl, rfl⟩, rfl, fun e he' => keys_ent hp e (by simpa using he'), pv, by rw [ek]; exact nd⟩
    have hl : vs.length = kvs.length := by
      have := congrArg List.length ek
      simpa using this
    have sz : (1000 : Nat) ≤ sizeLine := by decide
    refine PySem.W.kdl_call (PySem.W.kdl_dict (knd := strKind X.prog X.w) (kvs := vs) (ep := ep) lo) (I.ok.hd hc) hat (by omega) fun h' tk acc' c' hkeep hD hacc => ?_
    have hv : Vals ((kvs.map (·.1)).map V.str) acc'.toList := by
      refine vals_keys (P := X.prog) (w := X.w) (by rw [Array.length_toList, hacc.1, List.length_map, hl]) fun j k u e1 e2 => ?_
      obtain ⟨k', x', e3, e4⟩ := hacc.2 j u (by rw [← Array.getElem?_toList]; exact e2)
      rw [← ek, List.getElem?_map, e3] at e1
      have : k' = k := by simpa using e1
      rw [← this]; exact e4
    have e0 : kvs.map (fun kv => V.str kv.1) = (kvs.map (·.1)).map V.str := by rw [List.map_map]; rfl
    refine ⟨.ref s.heap.objs.size, upd H s.heap.objs.size (.lst (kvs.map fun kv => V.str kv.1)), I.laid (t' := tk) hkeep (Nat.le_refl _) ?_, rfl, q _ (I.hok.fresh (Nat.le_refl _))⟩
    refine ⟨by rw [List.length_map]; omega, acc'.toList, c', by rw [e0]; exact hv, ?_⟩
    rw [hD]
/-! ### split -/
open PySem.Builtin.Str in
def parts (x y : Str) : List Str := partsBetween x (occurrences x y 0 x.length (x.length + 1)) y.length
open PySem.Builtin.Str in
end
/-! ### xs[::-1] -/
section
variable {X : Cx} {e : Expr} {te : TE} {pos p2 cp : Pos} {j : Nat}
end
end L2

set_option Elab.async false
set_option linter.all false
/-! Tokens of a text, as lists of codes: the mirror of both cuts, and what holds of it -/
namespace TK
def gap (c : Nat) : Bool := c == 32 || c == 10
def single (c : Nat) : Bool := [40, 41, 123, 125, 91, 93, 44, 59, 43, 45, 38, 124, 94, 60, 61].contains c
/-- how many codes the sign has that begins here; 0 where there is none -/
def sgn : List Nat → Nat
  | [] => 0
  | [c] => if single c then 1 else 0
  | c :: d :: _ => if (c == 60 && d == 60) || (c == 62 && d == 62) then 2 else if single c then 1 else 0
/-- the longest run of other signs -/
def run : List Nat → Nat
  | [] => 0
  | c :: r => if gap c || sgn (c :: r) != 0 then 0 else 1 + run r
/-- the length of the token that begins here (no gap) -/
def one (l : List Nat) : Nat := if sgn l = 0 then run l else sgn l
def toksF : Nat → List Nat → List (List Nat)
  | 0, _ => []
  | _, [] => []
  | n + 1, c :: r => if gap c then toksF n r else (c :: r).take (one (c :: r)) :: toksF n ((c :: r).drop (one (c :: r)))
def toks (l : List Nat) : List (List Nat) := toksF l.length l
/-- a token: it has codes, none a gap, and ahead of a gap or the end it is cut off just so -/
structure Tok (t : List Nat) : Prop where
  cut : ∀ s : List Nat, (s = [] ∨ ∃ c r, s = c :: r ∧ gap c = true) → one (t ++ s) = t.length
  ne : t ≠ []
  ng : ∀ c ∈ t, gap c = false
/-- texts with a text between any two -/
def jn (sep : List Nat) : List (List Nat) → List Nat
  | [] => []
  | [t] => t
  | t :: u :: r => t ++ (sep ++ jn sep (u :: r))
end TK

set_option Elab.async false
set_option linter.all false
set_option maxRecDepth 100000
/-! Texts by their codes: slices, in, or, join, isinstance -/
namespace L2
open PySem PySem.Spec PyProof.Rows
def S (l : List Nat) : Str := ⟨l.toArray⟩
theorem S_len (l : List Nat) : (S l).length = l.length := by show l.toArray.size = _; simp
theorem sIx_le (n : Nat) (v : Option Int) (d : Nat) (hd : d ≤ n) : HT.sIx n d v ≤ n ∨ ∃ i, v = some i ∧ i < 0 := by
  cases v with
  | none => exact .inl hd
  | some i =>
    by_cases h : i < 0
    · exact .inr ⟨i, rfl, h⟩
    · refine .inl ?_
      show (if i < 0 then (i + (n : Int)).toNat else min i.toNat n) ≤ n
      rw [if_neg h]; omega
open PySem.Builtin.Str in
open PySem.Builtin.Str in
section
variable {X : Cx}
/-! ### join -/
theorem strs_of_vals : ∀ {ys : List Str} {us : List Value}, Vals (ys.map V.str) us → StrsAre us ys
  | [], _, .nil => .nil
  | n :: r, _, .cons h t => by
    obtain ⟨tk, rfl⟩ := h
    exact .cons n tk (strs_of_vals t)
theorem glued_jn (sep : List Nat) (ts : List (List Nat)) : Txt.join (S sep) (ts.map S) = S (TK.jn sep ts) := by
  have go : ∀ (r : List (List Nat)) (acc : List Nat), (r.map S).foldl (fun acc p => acc ++ (S sep).cps ++ p.cps) acc.toArray = (acc ++ (r.map (sep ++ ·)).flatten).toArray := by
    intro r
    induction r with
    | nil => intro acc; simp
    | cons t r ih =>
      intro acc
      rw [List.map_cons, List.foldl_cons]
      have : acc.toArray ++ (S sep).cps ++ (S t).cps = (acc ++ sep ++ t).toArray := by simp [S]
      rw [this, ih]
      simp
  have fl : ∀ (t : List Nat) (r : List (List Nat)), TK.jn sep (t :: r) = t ++ (r.map (sep ++ ·)).flatten := by
    intro t r
    induction r generalizing t with
    | nil => simp [TK.jn]
    | cons u r ih =>
      show t ++ (sep ++ TK.jn sep (u :: r)) = _
      rw [ih u]
      simp
  cases ts with
  | nil => rfl
  | cons t r =>
    show (⟨((t :: r).map S |>.drop 1).foldl (fun acc p => acc ++ (S sep).cps ++ p.cps) (((t :: r).map S).headD Str.empty).cps⟩ : Str) = _
    rw [fl]
    have := go r t
    show (⟨(r.map S).foldl (fun acc p => acc ++ (S sep).cps ++ p.cps) t.toArray⟩ : Str) = _
    rw [this]
    rfl
theorem mt_join : MtR X "str.join" (fun x xs H Q => ∃ sep a ts, x = .str (S sep) ∧ xs = [.ref a] ∧ SqL X.K H a (ts.map fun t => V.str (S t)) ∧ (ts.map List.length).sum + ts.length * sep.length ≤ 100000 ∧ Q (.str (S (TK.jn sep ts))) H) := by
  intro pins s σ H x xs v us Q I rx rv h
  obtain ⟨sep, a, ts, rfl, rfl, hS, hz, q⟩ := h
  obtain ⟨t, rfl⟩ := rx
  obtain ⟨u, rfl, ru⟩ := rv.one
  cases ru
  obtain ⟨its, r, pl, hz2⟩ := I.list hS
  have e : (ts.map fun t => V.str (S t)) = (ts.map S).map V.str := by rw [List.map_map]; rfl
  rw [e] at r
  refine join_list pl.isList (ys := ts.map S) (by simpa using strs_of_vals r) ?_ fun t' k => ?_
  · have : ((ts.map S).map (·.length)).sum = (ts.map List.length).sum := by
      rw [List.map_map]
      congr 1
    rw [this, List.length_map, S_len]
    omega
  · rw [glued_jn]
    exact ⟨.str (S (TK.jn sep ts)), H, I.tok _, ⟨t', rfl⟩, q⟩
end
end L2

set_option Elab.async false
set_option linter.all false
set_option maxRecDepth 100000
/-! split of any text; replace of written texts (where a text was made ahead of it, so that no token is 0) -/
namespace L2
open PySem PySem.Spec PyProof.Rows
section
variable {X : Cx}
open PySem.Builtin.Str in
variable {o e : Expr} {es : List Expr} {to te : TE} {t : TA} {name : Str} {apos cpos : Pos} {T id : String} {r : V → List V → Hp → VK → Prop}
end
/-! ### the mathematics: line feeds to blanks, then blanks away -/
end L2

set_option Elab.async false
set_option linter.all false
set_option maxRecDepth 100000
/-! isinstance of any kind, texts walked and listed, all, floor by any small divisor -/
namespace L2
open PySem PySem.Spec PyProof.Rows
section
variable {X : Cx}
theorem isi_ty {T : String} : CallR X (.builtin "isinstance") (fun xs H Q => ∃ x t b, xs = [x, .ty T] ∧ TyOf X.K H x t ∧ PySem.W.kitOne X.K t (.type T) = some b ∧ Q (.bl b) H) := by
  intro pins s σ H xs us Q I r h
  obtain ⟨x, t, b, rfl, ty, e, q⟩ := h
  cases r with
  | cons r0 rr =>
    cases rr with
    | cons r1 rr =>
      cases rr
      cases r1
      exact isinst_ok I r0 ty e fun tk => ⟨.bl b, H, I.tok _, rfl, q⟩
/-- // by a positive divisor of at most 2 ^ 64 -/
theorem op_fdivB : OpR X (binaryOp .FloorDiv) (rI (fun _ j => 0 < j ∧ j < 18446744073709551616) fun i j => .int (i / j)) := opI fun i j _ _ _ _ _ hc q => by
  have h1 : (0 : Int) < j := hc.1
  have h2 : j < 18446744073709551616 := hc.2
  refine floordiv_int (by omega) (by rw [Int.fdiv_eq_ediv_of_nonneg i (by omega)]; exact q) (.inl (PyProof.noPylong_of_log2 ?_))
  have h3 : j.natAbs ≠ 0 := by omega
  have : j.natAbs.log2 < 64 := (Nat.log2_lt h3).mpr (by show j.natAbs < 2 ^ 64; omega)
  omega
/-! ### a text walked -/
/-! ### all(list of truths) -/
/-! ### list(text), tuple(text) -/
end
end L2

set_option Elab.async false
set_option linter.all false
set_option maxRecDepth 100000
namespace L2
open PySem PySem.Spec PyProof.Rows

/-! ### lists of pairs as tables -/
section
variable {κ : Type} [DecidableEq κ]
def valV (kvs : List (κ × V)) (k : κ) : Option V := (kvs.find? fun kv => decide (kv.1 = k)).map (·.2)
/-- in its place, or at the end -/
def putK (kvs : List (κ × V)) (k : κ) (v : V) : List (κ × V) :=
  if (kvs.any fun kv => decide (kv.1 = k)) = true then kvs.map (fun kv => if kv.1 = k then (kv.1, v) else kv) else kvs ++ [(k, v)]
def dropK (kvs : List (κ × V)) (k : κ) : List (κ × V) := kvs.filter fun kv => decide (kv.1 ≠ k)

theorem valV_pos {p : κ × V} {r : List (κ × V)} {k : κ} (e : p.1 = k) : valV (p :: r) k = some p.2 := by simp [valV, List.find?_cons, e]
theorem valV_neg {p : κ × V} {r : List (κ × V)} {k : κ} (e : ¬ p.1 = k) : valV (p :: r) k = valV r k := by simp [valV, List.find?_cons, e]
theorem valV_any (k : κ) : ∀ kvs : List (κ × V), (kvs.any fun kv => decide (kv.1 = k)) = (valV kvs k).isSome
  | [] => rfl
  | p :: r => by
    rw [List.any_cons]
    by_cases e : p.1 = k
    · simp only [valV_pos e, decide_eq_true e, Bool.true_or, Option.isSome_some]
    · rw [valV_neg e, decide_eq_false e, Bool.false_or]; exact valV_any k r
theorem length_putK (kvs : List (κ × V)) (k : κ) (v : V) : (putK kvs k v).length ≤ kvs.length + 1 := by
  unfold putK
  split
  · rw [List.length_map]; omega
  · rw [List.length_append, List.length_cons, List.length_nil]; omega
theorem RelO.isSome_eq {o : Option V} {u : Option Value} (r : RelO o u) : o.isSome = u.isSome := by
  cases o with
  | none => cases u with
    | none => rfl
    | some _ => exact (show False from r).elim
  | some _ => cases u with
    | none => exact (show False from r).elim
    | some _ => rfl
theorem RelO.getD {o : Option V} {u : Option Value} {d : V} {d' : Value} (r : RelO o u) (rd : RelV d d') : RelV (o.getD d) (u.getD d') := by
  cases o with
  | none => cases u with
    | none => exact rd
    | some _ => exact (show False from r).elim
  | some _ => cases u with
    | none => exact (show False from r).elim
    | some _ => exact r

/-- raw tables of the same keys -/
theorem KV.val {kvs : List (κ × V)} {vs : List (κ × Value)} (r : KV kvs vs) (k : κ) : RelO (valV kvs k) (valueAt vs k) := by
  unfold KV at r
  induction r with
  | nil => exact True.intro
  | @cons p q ps qs h t ih =>
    obtain ⟨h1, h2⟩ := h
    by_cases e : p.1 = k
    · have e' : q.1 = k := h1.symm.trans e
      have b : valueAt (q :: qs) k = some q.2 := by simp [valueAt, List.find?_cons, e']
      rw [valV_pos e, b]; exact h2
    · have e' : ¬ q.1 = k := fun z => e (h1.trans z)
      have b : valueAt (q :: qs) k = valueAt qs k := by simp [valueAt, List.find?_cons, e']
      rw [valV_neg e, b]; exact ih
theorem KV.any {kvs : List (κ × V)} {vs : List (κ × Value)} (r : KV kvs vs) (k : κ) : (kvs.any fun kv => decide (kv.1 = k)) = vs.any fun kv => decide (kv.1 = k) := by
  unfold KV at r
  induction r with
  | nil => rfl
  | cons h t ih => rw [List.any_cons, List.any_cons, ih, h.1]
theorem KV.repl {kvs : List (κ × V)} {vs : List (κ × Value)} (r : KV kvs vs) (k : κ) {y : V} {u : Value} (ry : RelV y u) :
    KV (kvs.map fun kv => if kv.1 = k then (kv.1, y) else kv) (vs.map fun kv => if kv.1 = k then (kv.1, u) else kv) := by
  unfold KV at r ⊢
  induction r with
  | nil => exact .nil
  | @cons p q ps qs h t ih =>
    rw [List.map_cons, List.map_cons]
    refine .cons ?_ ih
    obtain ⟨h1, h2⟩ := h
    by_cases e : p.1 = k
    · rw [if_pos e, if_pos (h1.symm.trans e)]; exact ⟨h1, ry⟩
    · rw [if_neg e, if_neg (fun z => e (h1.trans z))]; exact ⟨h1, h2⟩
theorem KV.put {kvs : List (κ × V)} {vs : List (κ × Value)} (r : KV kvs vs) (k : κ) {y : V} {u : Value} (ry : RelV y u) : KV (putK kvs k y) (stored vs k u) := by
  unfold putK stored
  rw [r.any k]
  by_cases e : (vs.any fun kv => decide (kv.1 = k)) = true
  · rw [if_pos e, if_pos e]; exact r.repl k ry
  · rw [if_neg e, if_neg e]; exact Paired.snoc r ⟨rfl, ry⟩
theorem KV.drop {kvs : List (κ × V)} {vs : List (κ × Value)} (r : KV kvs vs) (k : κ) : KV (dropK kvs k) (without vs k) := by
  unfold KV at r ⊢
  unfold dropK without
  induction r with
  | nil => exact .nil
  | @cons p q ps qs h t ih =>
    obtain ⟨h1, h2⟩ := h
    rw [List.filter_cons, List.filter_cons]
    by_cases e : p.1 = k
    · have a : ¬ decide (p.1 ≠ k) = true := by simp [e]
      have b : ¬ decide (q.1 ≠ k) = true := by simp [h1.symm.trans e]
      rw [if_neg a, if_neg b]; exact ih
    · have e' : ¬ q.1 = k := fun z => e (h1.trans z)
      have a : decide (p.1 ≠ k) = true := by simp [e]
      have b : decide (q.1 ≠ k) = true := by simp [e']
      rw [if_pos a, if_pos b]; exact .cons ⟨h1, h2⟩ ih
theorem KV.keys {kvs : List (κ × V)} {vs : List (κ × Value)} (r : KV kvs vs) : kvs.map (·.1) = vs.map (·.1) := by
  unfold KV at r
  induction r with
  | nil => rfl
  | cons h t ih => rw [List.map_cons, List.map_cons, ih, h.1]
theorem KV.length {kvs : List (κ × V)} {vs : List (κ × Value)} (r : KV kvs vs) : kvs.length = vs.length := Paired.length r
end


/-! ### a tracked dict, its keys ints and texts or tuples of these -/
theorem kV_is {P : Program} {w : World} {k : Key} {u : Value} (r : RelV (kV k) u) : (mixKind P w).is k u = true := by
  cases k with
  | inl i => obtain ⟨t, e⟩ := (show ∃ t, u = Value.int i t from r); subst e; exact mixKind_int P w i t
  | inr x => obtain ⟨t, e⟩ := (show ∃ t, u = Value.str x t from r); subst e; exact mixKind_str P w x t
theorem items_are {P : Program} {w : World} : ∀ {ks : List Key} {us : List Value}, Vals (ks.map kV) us → ItemsAre (mixKind P w) ks us
  | [], _, r => by rw [List.map_nil] at r; cases r; exact .nil
  | k :: ks, _, r => by
    rw [List.map_cons] at r
    cases r with
    | cons h t => exact .cons (kV_is h) (items_are t)

/-- raw entries of a dict with tuple keys -/
abbrev KT (H : Hp) : List (List Key × V) → List (List Key × Addr × Value) → Prop := Paired fun p q => p.1 = q.1 ∧ H q.2.1 = some (.tup (p.1.map kV)) ∧ RelV p.2 q.2.2
theorem KT.val {H : Hp} {kvs : List (List Key × V)} {xs : List (List Key × Addr × Value)} (r : KT H kvs xs) (k : List Key) : RelO (valV kvs k) ((atKey xs k).map (·.2)) := by
  induction r with
  | nil => exact True.intro
  | @cons p q ps qs h t ih =>
    obtain ⟨h1, _, h2⟩ := h
    by_cases e : p.1 = k
    · have e' : q.1 = k := h1.symm.trans e
      have b : atKey (q :: qs) k = some q.2 := by simp [atKey, List.find?_cons, e']
      rw [valV_pos e, b]; exact h2
    · have e' : ¬ q.1 = k := fun z => e (h1.trans z)
      have b : atKey (q :: qs) k = atKey qs k := by simp [atKey, List.find?_cons, e']
      rw [valV_neg e, b]; exact ih
theorem KT.repl {H : Hp} {kvs : List (List Key × V)} {xs : List (List Key × Addr × Value)} (r : KT H kvs xs) (k : List Key) {y : V} {u : Value} (ry : RelV y u) :
    KT H (kvs.map fun kv => if kv.1 = k then (kv.1, y) else kv) (xs.map (putAt k u)) := by
  induction r with
  | nil => exact .nil
  | @cons p q ps qs h t ih =>
    rw [List.map_cons, List.map_cons]
    refine .cons ?_ ih
    obtain ⟨h1, h2, h3⟩ := h
    unfold putAt
    by_cases e : p.1 = k
    · rw [if_pos e, if_pos (h1.symm.trans e)]; exact ⟨h1, h2, ry⟩
    · rw [if_neg e, if_neg (fun z => e (h1.trans z))]; exact ⟨h1, h2, h3⟩
theorem KT.put {H : Hp} {kvs : List (List Key × V)} {xs : List (List Key × Addr × Value)} (r : KT H kvs xs) (k : List Key) {b : Addr} {y : V} {u : Value} (hb : H b = some (.tup (k.map kV))) (ry : RelV y u) :
    KT H (putK kvs k y) (storedH xs k b u) := by
  have e : (kvs.any fun kv => decide (kv.1 = k)) = (atKey xs k).isSome := by
    rw [valV_any, (r.val k).isSome_eq, Option.isSome_map]
  unfold putK storedH
  rw [e]
  by_cases q : (atKey xs k).isSome = true
  · rw [if_pos q, if_pos q]; exact r.repl k ry
  · rw [if_neg q, if_neg q]; exact Paired.snoc r ⟨rfl, hb, ry⟩
theorem KT.keeps {H H' : Hp} {kvs : List (List Key × V)} {xs : List (List Key × Addr × Value)} (r : KT H kvs xs) (ht : ∀ b ys, H b = some (.tup ys) → H' b = some (.tup ys)) : KT H' kvs xs :=
  Paired.mapP r fun _ _ z => ⟨z.1, ht _ _ z.2.1, z.2.2⟩

section
variable {P : Program} {w : World} {H : Hp} {h : Heap} {a : Addr}
theorem rd_of {u : HO} (ok : HOk P w H h) (e : Rd H a u) : ObjOk P w H h a u := e.ok ok
theorem dk_rd {kvs : List (Key × V)} (ok : HOk P w H h) (e : Rd H a (.dK kvs)) : kvs.length ≤ sizeLine ∧ (a == sysModules) = false ∧ ∃ vs, KV kvs vs ∧ h.DictOf (mixKind P w) a vs :=
  show ObjOk P w H h a (.dK kvs) from rd_of ok e
theorem dk_of {kvs : List (Key × V)} (ok : HOk P w H h) (e : H a = some (.dK kvs)) : kvs.length ≤ sizeLine ∧ (a == sysModules) = false ∧ ∃ vs, KV kvs vs ∧ h.DictOf (mixKind P w) a vs := dk_rd ok (.inl e)
/-- a tracked tuple of ints and texts is a key -/
theorem key_of {ks : List Key} (ok : HOk P w H h) (e : H a = some (.tup (ks.map kV))) : (tupleKind (mixKind P w)).is h ks a := by
  obtain ⟨_, its, r, o, h1, h2, n, h3⟩ := (show ObjOk P w H h a (.tup (ks.map kV)) from ok a _ e)
  exact ⟨o, its.toArray, n, h1, h2, h3, by simpa using items_are r⟩
theorem dt_rd {kvs : List (List Key × V)} (ok : HOk P w H h) (e : Rd H a (.dT kvs)) : kvs.length ≤ sizeLine ∧ (a == sysModules) = false ∧
    ∃ xs, KT H kvs xs ∧ h.DictOfH (tupleKind (mixKind P w)) a xs := by
  obtain ⟨z, y, xs, r, o, es, ep, h1, h2, h3, h4, h5⟩ := (show ObjOk P w H h a (.dT kvs) from rd_of ok e)
  refine ⟨z, y, xs, r, o, es, ep, h1, h2, h3, h4, fun x hx => ?_, h5⟩
  have all : ∀ {l : List (List Key × V)} {m : List (List Key × Addr × Value)}, KT H l m → ∀ x ∈ m, (tupleKind (mixKind P w)).is h x.1 x.2.1 := by
    intro l m q
    induction q with
    | nil => intro x hx; exact nomatch hx
    | @cons p q ps qs hq t ih =>
      intro x hx
      rcases List.mem_cons.mp hx with e | hx
      · subst e
        exact key_of ok (by rw [← hq.1]; exact hq.2.1)
      · exact ih x hx
  exact all r x hx
end

/-- what the dict at a holds at the key y -/
def DGet (H : Hp) (a : Addr) (y : V) (r : Option V) : Prop :=
  (∃ kvs k, Rd H a (.dK kvs) ∧ y = kV k ∧ r = valV kvs k) ∨ ∃ kvs k b, Rd H a (.dT kvs) ∧ y = .ref b ∧ H b = some (.tup (k.map kV)) ∧ r = valV kvs k
/-- the heap behind a[y] = v -/
def DPut (H : Hp) (a : Addr) (y v : V) (H' : Hp) : Prop :=
  (∃ kvs k, H a = some (.dK kvs) ∧ y = kV k ∧ kvs.length < sizeLine ∧ H' = upd H a (.dK (putK kvs k v))) ∨
  ∃ kvs k b, H a = some (.dT kvs) ∧ y = .ref b ∧ H b = some (.tup (k.map kV)) ∧ kvs.length < sizeLine ∧ H' = upd H a (.dT (putK kvs k v))
theorem DGet.k {H : Hp} {a : Addr} {kvs : List (Key × V)} {k : Key} (e : H a = some (.dK kvs)) : DGet H a (kV k) (valV kvs k) := .inl ⟨kvs, k, .inl e, rfl, rfl⟩
theorem DGet.t {H : Hp} {a b : Addr} {kvs : List (List Key × V)} {k : List Key} (e : H a = some (.dT kvs)) (eb : H b = some (.tup (k.map kV))) : DGet H a (.ref b) (valV kvs k) := .inr ⟨kvs, k, b, .inl e, rfl, eb, rfl⟩
theorem DPut.k {H : Hp} {a : Addr} {kvs : List (Key × V)} {k : Key} {v : V} (e : H a = some (.dK kvs)) (hl : kvs.length < sizeLine) : DPut H a (kV k) v (upd H a (.dK (putK kvs k v))) := .inl ⟨kvs, k, e, rfl, hl, rfl⟩
theorem DPut.t {H : Hp} {a b : Addr} {kvs : List (List Key × V)} {k : List Key} {v : V} (e : H a = some (.dT kvs)) (eb : H b = some (.tup (k.map kV))) (hl : kvs.length < sizeLine) :
    DPut H a (.ref b) v (upd H a (.dT (putK kvs k v))) := .inr ⟨kvs, k, b, e, rfl, eb, hl, rfl⟩


section
variable {X : Cx} {pins : List (Addr × Obj)} {σ : St} {H : Hp} {s : Shared} {a : Addr} {y v : V} {u r : Value} {o : Option V} {A : Around} {E : Value → Shared → Prop}

theorem Inv.big (I : Inv X pins σ H s) : sysModules < s.heap.objs.size := by
  have h : mainGlobals < s.heap.objs.size := (I.mod.glob.keeps I.bk).lt
  exact Nat.lt_trans (by decide) h

/-- d[y], there -/
theorem d_getItem {Q : Value → Shared → Prop} (hu : A.units + 1 < cLine) (I : Inv X pins σ H s) (g : DGet H a y (some v)) (ry : RelV y u) (h : ∀ w' s', Inv X pins σ H s' → RelV v w' → Q w' s') :
    wpAny (model X.prog X.w) A (getItem (.ref a) u) Q E s := by
  rcases g with ⟨kvs, k, e, ey, l⟩ | ⟨kvs, k, b, e, ey, eb, l⟩
  · subst ey
    obtain ⟨z, hd, vs, rel, dd⟩ := dk_rd I.hok e
    obtain ⟨w', hw, rw'⟩ := RelO.some_of (v := v) (o := valueAt vs k) (by rw [l]; exact rel.val k)
    exact wpAny_getItem_of (kV_is ry) dd.mapOf hw (h w' _ (I.tok _) rw')
  · subst ey
    cases (show u = Value.ref b from ry)
    obtain ⟨z, hd, xs, rel, dd⟩ := dt_rd I.hok e
    obtain ⟨w', hw, rw'⟩ := RelO.some_of (v := v) (o := (atKey xs k).map (·.2)) (by rw [l]; exact rel.val k)
    obtain ⟨p, hp, hp2⟩ := Option.map_eq_some_iff.mp hw
    refine wpAny_getItem_heap (tupleKind_room_in1 hu) (key_of I.hok eb) dd hp ?_
    rw [hp2]
    exact h w' _ (I.tok _) rw'
/-- a dict's object is replaced -/
theorem d_write {h' : Heap} {t' : Nat} {ob : HO} (I : Inv X pins σ H s) (mu : Mut (H a)) (hs : Heap.SameBut a s.heap h') (he : ∃ q, h'.get? a = some q) (new : ObjOk X.prog X.w (upd H a ob) h' a ob) :
    Inv X pins σ (upd H a ob) { s with heap := h', toks := t' } :=
  I.write (x := a) (e := a) mu (.inl rfl) (fun b q hb z => (hs.2 b hb).trans z) he new
theorem dk_new {P : Program} {w : World} {H' : Hp} {h' : Heap} {kvs : List (Key × V)} {vs : List (Key × Value)} (z : kvs.length ≤ sizeLine) (hd : (a == sysModules) = false) (rel : KV kvs vs) (dd : h'.DictOf (mixKind P w) a vs) :
    ObjOk P w H' h' a (.dK kvs) := ⟨z, hd, vs, rel, dd⟩
end

section
variable {X : Cx} {pins : List (Addr × Obj)} {σ : St} {H : Hp} {s : Shared} {a : Addr} {kvs : List (Key × V)} {k : Key} {u : Value} {A : Around} {E : Value → Shared → Prop}
end


/-! ### readings and rules -/
/-- the element of a subscription, not a slice -/
def NoSl (i : Expr) : Prop := ∀ ov iv, subscripted i false ov iv = operate [ov, iv] (getItem ov iv)
theorem subD_of {prog : Program} {w : World} {A : Around} {E : Value → Shared → Prop} {s : Shared} {env : Env} {value slice : Expr} {pos : Pos} {T id : String} {Q : Value → Shared → Prop}
    (hl : typeLookup (.type T) "__getitem__" = pure (some (.builtin id))) (hs : NoSl slice)
    (h : wpAny (model prog w) A (eval value env) (fun o s₁ => wpAny (model prog w) A (eval slice env) (fun i s₂ => s₂.TypeIs o T ∧ wpAny (model prog w) A (getItem o i) Q E s₂) E s₁) E s) :
    wpAny (model prog w) A (eval (.Subscript value slice pos) env) Q E s := by
  refine Subscript_ (wpAny_mono h (fun o s₁ h₁ => wpAny_mono h₁ (fun i s₂ h₂ => ?_) fun _ _ x => x) fun _ _ x => x)
  obtain ⟨hT, h₂⟩ := h₂
  unfold subscriptTail
  refine wpAny_bind ?_
  rw [getitemInPython_of_ne hT.not_modules]
  refine wpAny_bind (wpAny_specialOf hT hl ?_)
  have fin : wpAny (model prog w) A (subscripted slice false o i) (fun r s₃ => wpAny (model prog w) A (letTemporaryGo value o r >>= fun _ => pure r) Q E s₃) E s₂ := by
    rw [hs o i]
    exact wpAny_operating (wpAny_mono h₂ (fun r s₃ h₃ => wpAny_bind (wpAny_letTemporaryGo (wpAny_pure h₃))) fun _ _ x => x)
  first
    | exact wpAny_pure (wpAny_bind fin)
    | exact wpAny_bind (wpAny_pure (wpAny_bind fin))
    | exact wpAny_bind fin

theorem dict_typeIs {X : Cx} {pins : List (Addr × Obj)} {σ : St} {H : Hp} {s : Shared} {a : Addr} {y : V} {o : Option V} (I : Inv X pins σ H s) (g : DGet H a y o) : s.TypeIs (.ref a) "dict" := by
  rcases g with ⟨kvs, k, e, _, _⟩ | ⟨kvs, k, b, e, _, _, _⟩
  · obtain ⟨_, _, vs, _, dd⟩ := dk_rd I.hok e
    exact dd.typeIs
  · obtain ⟨_, _, xs, _, dd⟩ := dt_rd I.hok e
    exact dd.typeIs
/-- d[y] -/
def tDGet (td ty : TE) : TE := fun σ H Q => td σ H fun x H1 => ty σ H1 fun y H2 => ∃ a v, x = .ref a ∧ DGet H2 a y (some v) ∧ Q v H2
section
variable {X : Cx} {o i e value : Expr} {pos pos' tpos : Pos} {td ty tv : TE}
theorem pe_dget (hu : X.A.units + 1 < cLine) (ho : PE X o td) (hi : PE X i ty) (hs : NoSl i) : PE X (.Subscript o i pos) (tDGet td ty) := by
  intro pins s σ H Q I h
  refine subD_of PySem.F.slot_dict_getitem.lookup hs (thn (ho pins s σ H _ I h) fun u s1 ⟨x, H1, I1, rx, q1⟩ => thn (hi pins s1 σ H1 _ I1 q1) fun iv s2 ⟨y, H2, I2, ry, a, v, ex, g, q2⟩ => ?_)
  subst ex
  obtain rfl : u = Value.ref a := rx
  exact ⟨dict_typeIs I2 g, d_getItem hu I2 g ry fun w' s3 I3 rw' => ⟨v, H2, I3, rw', q2⟩⟩
end


/-! ### displays -/
theorem dk_empty {P : Program} {w : World} {H : Hp} (h : Heap) (hb : sysModules < h.objs.size) : ObjOk P w H (h.push { cls := .type "dict", data := .dict #[] }) h.objs.size (.dK []) :=
  ⟨Nat.zero_le _, beq_eq_false_iff_ne.mpr (Ne.symm (Nat.ne_of_lt hb)), [], .nil, Heap.DictOf.new h⟩
section
variable {X : Cx} {pos : Pos}
end

/-- the pairs of a display, from the left -/
def tPairs : List (TE × TE) → St → Hp → (List (V × V) → Hp → Prop) → Prop
  | [], _, H, Q => Q [] H
  | (tk, tv) :: r, σ, H, Q => tk σ H fun x H1 => tv σ H1 fun y H2 => tPairs r σ H2 fun ps H3 => Q ((x, y) :: ps) H3
abbrev VV : List (V × V) → List (Value × Value) → Prop := Paired fun p q => RelV p.1 q.1 ∧ RelV p.2 q.2
def PPs (X : Cx) (pos : Pos) (keys : List (Option Expr)) (values : List Expr) (trs : List (TE × TE)) : Prop :=
  ∀ (pins : List (Addr × Obj)) (s : Shared) (σ : St) (H : Hp) (Q : List (V × V) → Hp → Prop), Inv X pins σ H s → tPairs trs σ H Q →
    wpAny (model X.prog X.w) X.A (evalPairs (pairTrees keys values X.env pos)) (fun vs s' => ∃ ps H', Inv X pins σ H' s' ∧ VV ps vs ∧ Q ps H') X.xe s
theorem pps_nil {X : Cx} {pos : Pos} : PPs X pos [] [] [] := fun pins s σ H Q I h => pairTrees_nil_walk ⟨[], H, I, .nil, h⟩
theorem pps_cons {X : Cx} {pos : Pos} {k v : Expr} {ks : List (Option Expr)} {vs : List Expr} {tk tv : TE} {trs : List (TE × TE)} (hk : PE X k tk) (hv : PE X v tv) (hr : PPs X pos ks vs trs) :
    PPs X pos (some k :: ks) (v :: vs) ((tk, tv) :: trs) := fun pins s σ H Q I h =>
  pairTrees_cons_walk (thn (hk pins s σ H _ I h) fun u s1 ⟨x, H1, I1, rx, q1⟩ => thn (hv pins s1 σ H1 _ I1 q1) fun w2 s2 ⟨y, H2, I2, ry, q2⟩ =>
    thn (hr pins s2 σ H2 _ I2 q2) fun ws s3 ⟨ps, H3, I3, rel, q3⟩ => ⟨(x, y) :: ps, H3, I3, .cons ⟨rx, ry⟩ rel, q3⟩)

def mergeK (kvs more : List (Key × V)) : List (Key × V) := more.foldl (fun acc kv => putK acc kv.1 kv.2) kvs
theorem KV.merge : ∀ {more : List (Key × V)} {rs : List (Key × Value)} {kvs : List (Key × V)} {vs : List (Key × Value)}, KV more rs → KV kvs vs → KV (mergeK kvs more) (merged vs rs) := by
  intro more rs kvs vs r
  unfold KV at r
  induction r generalizing kvs vs with
  | nil => intro q; exact q
  | @cons p q ps qs h t ih =>
    intro r0
    have e : KV (putK kvs p.1 p.2) (stored vs q.1 q.2) := by
      have := r0.put p.1 h.2
      rw [← h.1]; exact this
    exact ih e
theorem length_mergeK : ∀ (more kvs : List (Key × V)), (mergeK kvs more).length ≤ kvs.length + more.length
  | [], kvs => by show kvs.length ≤ kvs.length + 0; omega
  | p :: r, kvs => by
    have h1 := length_mergeK r (putK kvs p.1 p.2)
    have h2 := length_putK kvs p.1 p.2
    show (mergeK (putK kvs p.1 p.2) r).length ≤ _
    rw [List.length_cons]; omega
theorem carries_of {P : Program} {w : World} : ∀ {kvs : List (Key × V)} {ws : List (Value × Value)}, VV (kvs.map fun kv => (kV kv.1, kv.2)) ws → ∃ rs, Carries (mixKind P w) ws rs ∧ KV kvs rs
  | [], _, r => by rw [List.map_nil] at r; cases r; exact ⟨[], True.intro, .nil⟩
  | p :: kvs, _, r => by
    rw [List.map_cons] at r
    cases r with
    | @cons a b as bs h t =>
      obtain ⟨rs, c, q⟩ := carries_of (P := P) (w := w) t
      obtain ⟨b1, b2⟩ := b
      exact ⟨(p.1, b2) :: rs, ⟨kV_is h.1, rfl, c⟩, .cons ⟨rfl, h.2⟩ q⟩
/-- {k: v, ..} with keys ints and texts; the new dict stands empty while the pairs are made -/
def tDisp (trs : List (TE × TE)) : TE := fun σ H Q => ∀ p, H p = none → tPairs trs σ (upd H p (.dK [])) fun ps H2 => H2 p = some (.dK []) ∧ ∃ kvs : List (Key × V), ps = kvs.map (fun kv => (kV kv.1, kv.2)) ∧ kvs.length ≤ 15 ∧ Q (.ref p) (upd H2 p (.dK (mergeK [] kvs)))
theorem pe_disp {X : Cx} {pos : Pos} {keys : List (Option Expr)} {values : List Expr} {trs : List (TE × TE)} (h : PPs X pos keys values trs) (hall : keys.all (·.isSome) = true) (hl : keys.length = values.length) (h0 : keys ≠ [])
    (h15 : keys.length ≤ 15) : PE X (.Dict keys values pos) (tDisp trs) := by
  intro pins s σ H Q I q
  have hn := I.hok.fresh (Nat.le_refl s.heap.objs.size)
  have I1 := I.laid (a := s.heap.objs.size) (o := .dK []) (h' := s.heap.push { cls := .type "dict", data := .dict #[] }) (t' := s.toks) (fun _ _ q => Heap.get?_push_of_some _ q) (Nat.le_refl _) (dk_empty s.heap I.big)
  refine wpAny_Dict_walk (knd := mixKind X.prog X.w) hall hl h0 h15 (thn (h pins _ σ _ _ I1 (q _ hn)) fun ws s2 ⟨ps, H2, I2, rel, e, kvs, ep, lk, q2⟩ => ?_)
  subst ep
  obtain ⟨rs, c, rk⟩ := carries_of (P := X.prog) (w := X.w) rel
  obtain ⟨z, hd, vs0, r0, dd⟩ := dk_of I2.hok e
  cases r0
  refine ⟨rs, c, dd, fun h' dd' hs => ⟨.ref s.heap.objs.size, _, ?_, rfl, q2⟩⟩
  have hz : (mergeK [] kvs).length ≤ sizeLine := by
    have h1 := length_mergeK kvs []
    rw [List.length_nil] at h1
    rw [sizeLine_eq]; omega
  have he : ∃ q, h'.get? s.heap.objs.size = some q := let ⟨q, _, _, hq, _⟩ := dd'; ⟨q, hq⟩
  exact d_write I2 (by rw [e]; exact True.intro) hs he (dk_new hz hd (rk.merge .nil) dd')


/-! ### methods -/
/-- a method call o.m(e) of a built-in, with one argument: what must be seen of the text -/
structure M1 (X : Cx) (o : Expr) (m : Str) (apos : Pos) (e : Expr) (cpos : Pos) : Prop where
  base : attributeBase o m X.env (eval o X.env) = eval o X.env
  few : ((backTo cpos (starEach [e] X.env)).all (fun x => !x.1) && (backToKw cpos (keywordEach [] X.env)).all (fun x => x.1.isSome)
    && decide (([e] : List Expr).length + ([] : List Keyword).length + (if ([] : List Keyword).isEmpty then 0 else 1) < 30)) = true
  line : (apos.endLine == cpos.line) = true
  trees : backTo cpos (starEach [e] X.env) = [(false, eval e X.env)]
structure M2 (X : Cx) (o : Expr) (m : Str) (apos : Pos) (e f : Expr) (cpos : Pos) : Prop where
  base : attributeBase o m X.env (eval o X.env) = eval o X.env
  few : ((backTo cpos (starEach [e, f] X.env)).all (fun x => !x.1) && (backToKw cpos (keywordEach [] X.env)).all (fun x => x.1.isSome)
    && decide (([e, f] : List Expr).length + ([] : List Keyword).length + (if ([] : List Keyword).isEmpty then 0 else 1) < 30)) = true
  line : (apos.endLine == cpos.line) = true
  trees : backTo cpos (starEach [e, f] X.env) = [(false, eval e X.env), (false, eval f X.env)]

/-- a is a dict, whatever its keys -/
def IsD (H : Hp) (a : Addr) : Prop := (∃ kvs, Rd H a (.dK kvs)) ∨ ∃ kvs, Rd H a (.dT kvs)
theorem isD_at {X : Cx} {pins : List (Addr × Obj)} {σ : St} {H : Hp} {s : Shared} {a : Addr} (I : Inv X pins σ H s) (d : IsD H a) :
    s.TypeIs (.ref a) "dict" ∧ (∀ b, Value.ref a = .ref b → ∃ ob, s.heap.get? b = some ob ∧ ob.dict = none) ∧ (a == sysModules) = false := by
  rcases d with ⟨kvs, e⟩ | ⟨kvs, e⟩
  · obtain ⟨_, hd, vs, _, dd⟩ := dk_rd I.hok e
    refine ⟨dd.typeIs, fun b q => ?_, hd⟩
    cases q
    obtain ⟨ob, _, _, h1, h2, _⟩ := dd
    exact ⟨ob, h1, h2.2.1⟩
  · obtain ⟨_, hd, xs, _, dd⟩ := dt_rd I.hok e
    refine ⟨dd.typeIs, fun b q => ?_, hd⟩
    cases q
    obtain ⟨ob, _, _, h1, h2, _⟩ := dd
    exact ⟨ob, h1, h2.2.1⟩

section
variable {X : Cx} {pins : List (Addr × Obj)} {σ : St} {H : Hp} {s : Shared} {a : Addr} {y d : V} {u r : Value} {o : Option V} {A : Around} {E : Value → Shared → Prop}
/-- d.get(y, x) -/
theorem d_get2 {Q : Value → Shared → Prop} (hu : A.units + 1 < cLine) (I : Inv X pins σ H s) (g : DGet H a y o) (ry : RelV y u) (rd : RelV d r) (h : ∀ w' s', Inv X pins σ H s' → RelV (o.getD d) w' → Q w' s') :
    wpAny (model X.prog X.w) A (call (.builtin "dict.get") [.ref a, u, r]) Q E s := by
  rcases g with ⟨kvs, k, e, ey, l⟩ | ⟨kvs, k, b, e, ey, eb, l⟩
  · subst ey
    obtain ⟨z, hd, vs, rel, dd⟩ := dk_rd I.hok e
    refine call_meetsIn PySem.F.slot_dict_get dd.typeIs PySem.F.entry_dict_get (PySem.F.args_dict_get_3 _ _ _) (meets_dict_get_default (mixKind X.prog X.w) a (kV_is ry) hd r) ⟨_, dd.mapOf, h _ _ (I.tok _) ?_⟩
    rw [l]
    exact (rel.val k).getD rd
  · subst ey
    cases (show u = Value.ref b from ry)
    obtain ⟨z, hd, xs, rel, dd⟩ := dt_rd I.hok e
    refine call_meetsIn PySem.F.slot_dict_get dd.typeIs PySem.F.entry_dict_get (PySem.F.args_dict_get_3 _ _ _) (meetsH_dict_get_default (tupleKind (mixKind X.prog X.w)) a b hd r) ⟨tupleKind_room_in1 hu, k, xs, key_of I.hok eb, dd, h _ _ (I.tok _) ?_⟩
    rw [l]
    exact (rel.val k).getD rd
end

def tDGet2 (td ty tx : TE) : TE := fun σ H Q => td σ H fun x H1 => ∃ a, x = .ref a ∧ IsD H1 a ∧ ty σ H1 fun y H2 => tx σ H2 fun z H3 => ∃ o, DGet H3 a y o ∧ Q (o.getD z) H3
section
variable {X : Cx} {o e f : Expr} {apos cpos : Pos} {td ty tx : TE}
theorem pe_dget2 (hu : X.A.units + 1 < cLine) (ho : PE X o td) (he : PE X e ty) (hf : PE X f tx) (m : M2 X o "get" apos e f cpos) : PE X (.Call (.Attribute o "get" apos) [e, f] [] cpos) (tDGet2 td ty tx) := by
  intro pins s σ H Q I h
  refine wpAny_Call_method m.base m.few m.line PySem.F.plainAttrs_dict PySem.F.slot_dict_get PySem.F.type_dict_get (thn (ho pins s σ H _ I h) fun u s1 ⟨x, H1, I1, rx, a, ex, d, q1⟩ => ?_)
  subst ex
  obtain rfl : u = Value.ref a := rx
  obtain ⟨t1, t2, _⟩ := isD_at I1 d
  refine ⟨t1, t2, ?_⟩
  rw [m.trees]
  refine Calls.callWith_builtin rfl (Calls.evalArgs_plain (Calls.spliced_cons (thn (he pins s1 σ H1 _ I1 q1) fun iv s2 ⟨y, H2, I2, ry, q2⟩ =>
    Calls.spliced_cons (thn (hf pins s2 σ H2 _ I2 q2) fun fv s3 ⟨z, H3, I3, rz, ov, g, q3⟩ => Calls.spliced_nil ?_))))
  exact d_get2 hu I3 g ry rz fun w' s4 I4 rw' => ⟨_, H3, I4, rw', q3⟩
end

/-! ### dict(d): a copy -/
section
variable {X : Cx} {pins : List (Addr × Obj)} {σ : St} {H : Hp} {s : Shared} {a : Addr} {kvs : List (Key × V)} {A : Around} {E : Value → Shared → Prop}
end


section
variable {X : Cx} {pins : List (Addr × Obj)} {σ : St} {H : Hp} {s : Shared} {a : Addr} {y : V} {u : Value} {A : Around} {E : Value → Shared → Prop}
end
end L2

set_option Elab.async false
set_option linter.all false
set_option maxRecDepth 100000
/-! a block cut in two: what holds between a statement and those behind it is told once, whatever ways lead there -/
namespace L2
open PySem PySem.Spec PyProof.Rows
def tCut (P : St → Hp → Prop) (t u : TS) : TS := fun D σ H => (∀ σ' H', P σ' H' → u D σ' H') ∧ t { D with nx := P } σ H
theorem pss_cut {X : Cx} {st : Stmt} {rest : List Stmt} {t u : TS} (P : St → Hp → Prop) (h1 : PS X st t) (h2 : PSs X rest u) : PSs X (st :: rest) (tCut P t u) := by
  intro pins s σ H D I h
  refine wpAny_execs_cons (thn (h1 pins s σ H { D with nx := P } I h.2) fun f s1 q => ?_)
  cases f with
  | next =>
    obtain ⟨σ', H', I', q⟩ := q
    exact h2 pins s1 σ' H' D I' (h.1 _ _ q)
  | ret v => exact q
  | brk => exact q
  | cont => exact q
end L2

set_option Elab.async false
set_option linter.all false
set_option maxRecDepth 100000
/-! tests cut, a tuple walked by a comprehension, isinstance of a tuple of types; nested tuples as data -/
namespace L2
open PySem PySem.Spec PyProof.Rows
section
variable {X : Cx}
end
/-! ### nested tuples -/
/-- every tuple stays -/
def TupK (H H' : Hp) : Prop := ∀ a xs, H a = some (.tup xs) → H' a = some (.tup xs)
theorem TupK.refl (H : Hp) : TupK H H := fun _ _ e => e
theorem TupK.trans {H H1 H2 : Hp} (a : TupK H H1) (b : TupK H1 H2) : TupK H H2 := fun c x e => b c x (a c x e)
theorem kt_same {H H' : Hp} (s : Same H H') : TupK H H' := fun a xs e => s _ _ e
/-- a text that may stand in data -/
def okS (x : Str) : Bool := (PyData.str x).canLay0
mutual
inductive Td (H : Hp) : V → PyData → Prop
  | int (i : Int) : Td H (.int i) (.int i)
  | str (x : Str) (h : okS x = true) : Td H (.str x) (.str x)
  | tup {a : Addr} {xs : List V} {ds : List PyData} : H a = some (.tup xs) → TdAll H xs ds → Td H (.ref a) (.tuple ds)
inductive TdAll (H : Hp) : List V → List PyData → Prop
  | nil : TdAll H [] []
  | cons {v : V} {d : PyData} {vs : List V} {ds : List PyData} : Td H v d → TdAll H vs ds → TdAll H (v :: vs) (d :: ds)
end
mutual
theorem Td.kt {H H' : Hp} (k : TupK H H') : ∀ {v : V} {d : PyData}, Td H v d → Td H' v d
  | _, _, .int i => .int i
  | _, _, .str x h => .str x h
  | _, _, .tup e t => .tup (k _ _ e) (TdAll.kt k t)
theorem TdAll.kt {H H' : Hp} (k : TupK H H') : ∀ {vs : List V} {ds : List PyData}, TdAll H vs ds → TdAll H' vs ds
  | _, _, .nil => .nil
  | _, _, .cons h t => .cons (Td.kt k h) (TdAll.kt k t)
end
mutual
theorem Td.dt {K : PySem.W.Frag} {H : Hp} : ∀ {v : V} {d : PyData}, Td H v d → Dt K H v d
  | _, _, .int i => .int i
  | _, _, .str x _ => .str x
  | _, _, .tup e t => .tup (SqT.of e) (TdAll.dt t)
theorem TdAll.dt {K : PySem.W.Frag} {H : Hp} : ∀ {vs : List V} {ds : List PyData}, TdAll H vs ds → DtAll K H vs ds
  | _, _, .nil => .nil
  | _, _, .cons h t => .cons (Td.dt h) (TdAll.dt t)
end
mutual
theorem Td.lay {H : Hp} : ∀ {v : V} {d : PyData}, Td H v d → d.canLay0 = true
  | _, _, .int i => rfl
  | _, _, .str x h => h
  | _, _, .tup e t => TdAll.lay t
theorem TdAll.lay {H : Hp} : ∀ {vs : List V} {ds : List PyData}, TdAll H vs ds → PyData.canLayAll0 ds = true
  | _, _, .nil => rfl
  | _, _, .cons h t => by
    simp only [PyData.canLayAll0, Td.lay h, TdAll.lay t, Bool.and_self]
end
mutual
theorem Td.eqv {H : Hp} : ∀ {v : V} {d : PyData}, Td H v d → PyData.eqv d d = true
  | _, _, .int i => by simp [PyData.eqv]
  | _, _, .str x _ => by simp [PyData.eqv]
  | _, _, .tup e t => by simp only [PyData.eqv]; exact TdAll.eqv t
theorem TdAll.eqv {H : Hp} : ∀ {vs : List V} {ds : List PyData}, TdAll H vs ds → PyData.eqvAll ds ds = true
  | _, _, .nil => by simp [PyData.eqvAll]
  | _, _, .cons h t => by
    simp only [PyData.eqvAll, Td.eqv h, TdAll.eqv t, Bool.and_self]
end
theorem TdAll.length {H : Hp} : ∀ {vs : List V} {ds : List PyData}, TdAll H vs ds → vs.length = ds.length
  | _, _, .nil => rfl
  | _, _, .cons _ t => by rw [List.length_cons, List.length_cons, TdAll.length t]
theorem TdAll.snoc {H : Hp} {v : V} {d : PyData} (h : Td H v d) : ∀ {vs : List V} {ds : List PyData}, TdAll H vs ds → TdAll H (vs ++ [v]) (ds ++ [d])
  | _, _, .nil => .cons h .nil
  | _, _, .cons a t => .cons a (TdAll.snoc h t)
theorem TdAll.get {H : Hp} : ∀ {vs : List V} {ds : List PyData}, TdAll H vs ds → ∀ {i : Nat} {v : V}, vs[i]? = some v → ∃ d, ds[i]? = some d ∧ Td H v d
  | _, _, .nil, i, v, h => by simp at h
  | _, _, .cons a t, 0, v, h => by
    simp at h
    subst h
    exact ⟨_, rfl, a⟩
  | _, _, .cons a t, i + 1, v, h => by
    obtain ⟨d, e, k⟩ := TdAll.get t (i := i) (v := v) (by simpa using h)
    exact ⟨d, by simpa using e, k⟩
end L2

set_option Elab.async false
set_option linter.all false
set_option maxRecDepth 100000
namespace L2
open PySem PySem.Spec PyProof.Rows
/-! ### small sets of small ints: the table, slot by slot -/
def tabOf (ps : List Nat) (led : Bool) : SetTable := { mask := 7, place := ps.toArray, dummies := #[], finger := 0, led := led, moves := 0, plain := true }
theorem free0 : ∀ (led : Bool) (h : Fin 8), (tabOf [] led).freeSlot (h.val : Int) = some (h.val, false) := by decide +kernel
theorem free1 : ∀ (led : Bool) (p h : Fin 8), p ≠ h → (tabOf [p.val] led).freeSlot (h.val : Int) = some (h.val, false) := by decide +kernel
theorem put0 : ∀ (led : Bool) (h : Fin 8), (tabOf [] led).put h.val = (tabOf [h.val] led, 0) := by decide +kernel
theorem put1 : ∀ (led : Bool) (p h : Fin 8), p ≠ h → (tabOf [p.val] led).put h.val = (if h.val < p.val then (tabOf [h.val, p.val] led, 0) else (tabOf [p.val, h.val] led, 1)) := by decide +kernel
theorem fits0 : ∀ (led : Bool), (tabOf [] led).fits 0 = true := by decide +kernel
theorem fits1 (led : Bool) (p : Nat) : (tabOf [p] led).fits 1 = true := by cases led <;> rfl
theorem fits2 (led : Bool) (p q : Nat) : (tabOf [p, q] led).fits 2 = true := by cases led <;> rfl
theorem full1 (led : Bool) (p : Nat) : (tabOf [p] led).tooFull = false := by cases led <;> rfl
theorem full2 (led : Bool) (p q : Nat) : (tabOf [p, q] led).tooFull = false := by cases led <;> rfl
def insN (k : Nat) : List Nat → List Nat
  | [] => [k]
  | [p] => if k = p then [p] else if k < p then [k, p] else [p, k]
  | l => l
inductive EntP : List Nat → List (Int × Value) → Prop
  | nil : EntP [] []
  | cons {p : Nat} {t : Tok} {ps : List Nat} {es : List (Int × Value)} : EntP ps es → EntP (p :: ps) (((p : Int), .int p t) :: es)
/-- a new one is laid -/
theorem lay_small {ps : List Nat} {led : Bool} {es : Array (Int × Value)} {k : Nat} {t : Tok} (he : EntP ps es.toList) (hl : ps = [] ∨ ∃ p, ps = [p] ∧ p ≠ k ∧ p < 8) (hk : k < 8) :
    ∃ es', layNew (tabOf ps led) es (k : Int) (.int k t) = (es', tabOf (insN k ps) led, false, false) ∧ EntP (insN k ps) es'.toList := by
  rcases hl with rfl | ⟨p, rfl, hne, hp⟩
  · have e0 : es = #[] := by
      generalize hl : es.toList = l at he
      cases he
      exact Array.toList_eq_nil_iff.mp hl
    subst e0
    refine ⟨#[((k : Int), .int k t)], ?_, .cons .nil⟩
    unfold layNew
    rw [free0 led ⟨k, hk⟩]
    dsimp only
    rw [put0 led ⟨k, hk⟩]
    dsimp only
    rfl
  · obtain ⟨tp, e0⟩ : ∃ tp, es = #[((p : Int), .int p tp)] := by
      generalize hl : es.toList = l at he
      cases he with
      | @cons _ tp _ _ r =>
        cases r
        refine ⟨tp, ?_⟩
        rw [← Array.toArray_toList (xs := es), hl]
    subst e0
    have hne' : (⟨p, hp⟩ : Fin 8) ≠ ⟨k, hk⟩ := fun z => hne (congrArg Fin.val z)
    unfold layNew
    rw [free1 led ⟨p, hp⟩ ⟨k, hk⟩ hne']
    dsimp only
    rw [put1 led ⟨p, hp⟩ ⟨k, hk⟩ hne']
    by_cases hlt : k < p
    · have e1 : insN k [p] = [k, p] := by simp [insN, hlt, Ne.symm hne]
      rw [e1]
      refine ⟨#[((k : Int), .int k t), ((p : Int), .int p tp)], ?_, .cons (.cons .nil)⟩
      dsimp only
      rw [if_pos hlt]
      rfl
    · have e1 : insN k [p] = [p, k] := by simp [insN, hlt, Ne.symm hne]
      rw [e1]
      refine ⟨#[((p : Int), .int p tp), ((k : Int), .int k t)], ?_, .cons (.cons .nil)⟩
      dsimp only
      rw [if_neg hlt]
      rfl

/-- the set at a: its members, in the table's order -/
def SetSm (h : Heap) (a : Addr) (ps : List Nat) (led : Bool) : Prop := ∃ o es ep, h.get? a = some o ∧ o.ExactSet ∧ o.data = .set es ep (tabOf ps led) ∧ EntP ps es.toList
theorem EntP.elems {prog : Program} {w : World} {ps : List Nat} {es : List (Int × Value)} (h : EntP ps es) (hp : ∀ p ∈ ps, p < 8) : ElemsOf (intKind prog w) es := by
  induction h with
  | nil => exact fun e he => nomatch he
  | @cons p t ps es _ ih =>
    intro e he
    rcases List.mem_cons.mp he with z | z
    · subst z
      refine ⟨⟨p, intKind_is _ _ _ _, ?_⟩, rfl⟩
      have := hp p List.mem_cons_self
      have hh : ∀ q : Fin 8, (q.val : Int) = hashInt (q.val : Int) := by decide +kernel
      exact hh ⟨p, hp p List.mem_cons_self⟩
    · exact ih (fun q hq => hp q (List.mem_cons_of_mem _ hq)) e z
theorem isInt_eq (k p : Nat) (t : Tok) : Value.isInt (k : Int) (.int (p : Int) t) = decide (k = p) := by
  by_cases h : k = p
  · subst h
    simp [Value.isInt]
  · have : (k : Int) ≠ (p : Int) := by omega
    have h2 : (p : Int) ≠ (k : Int) := by omega
    simp [Value.isInt, h, this, h2]
theorem find_small {ps : List Nat} {k : Nat} {l : List (Int × Value)} (h : EntP ps l) (hl : ps = [] ∨ ∃ p, ps = [p]) : l.findIdx? (fun e => Value.isInt (k : Int) e.2) = if k ∈ ps then some 0 else none := by
  cases h with
  | nil => rfl
  | @cons p t ps es r =>
    have : ps = [] := by rcases hl with z | ⟨q, z⟩ <;> simp_all
    subst this
    cases r
    rw [List.findIdx?_cons]
    dsimp only
    rw [isInt_eq]
    by_cases z : k = p
    · subst z
      simp
    · simp [z]
theorem EntP.size {ps : List Nat} {es : List (Int × Value)} (h : EntP ps es) : es.length = ps.length := by
  induction h with
  | nil => rfl
  | cons _ ih => rw [List.length_cons, List.length_cons, ih]
theorem fitsN {led : Bool} {ps : List Nat} (h : ps.length ≤ 2) : (tabOf ps led).fits ps.length = true := by
  match ps, h with
  | [], _ => exact fits0 led
  | [p], _ => exact fits1 led p
  | [p, q], _ => exact fits2 led p q
section
variable {prog : Program} {w : World} {A : Around} {E : Value → Shared → Prop} {s : Shared}
theorem add_small {a : Addr} {ps : List Nat} {led : Bool} {k : Nat} {t : Tok} {Q : Bool → Shared → Prop} (hS : SetSm s.heap a ps led) (hl : ps = [] ∨ ∃ p, ps = [p]) (hp : ∀ p ∈ ps, p < 8) (hk : k < 8)
    (h : ∀ b h', Heap.SameBut a s.heap h' → SetSm h' a (insN k ps) led → Q b { s with heap := h' }) : wpAny (model prog w) A (setAddHashed a (.int k t) ((intKind prog w).hash (k : Int))) Q E s := by
  obtain ⟨o, es, ep, ho, hex, hd, hE⟩ := hS
  have hel := hE.elems (prog := prog) (w := w) hp
  have hl2 : ps.length ≤ 2 := by rcases hl with rfl | ⟨p, rfl⟩ <;> simp
  have hsz : es.size = ps.length := by rw [← Array.length_toList]; exact hE.size
  have hf : (tabOf ps led).fits es.size = true := by rw [hsz]; exact fitsN hl2
  have hkey : (intKind prog w).is (k : Int) (.int k t) = true := intKind_is _ _ _ _
  unfold setAddHashed setAddHashedIn
  refine wpAny_holding (wpAny_bind (wpAny_setState_of ho hd hf ?_))
  dsimp only
  rw [byScan_of (knd := intKind prog w) rfl (by rw [hsz]; unfold scanBound; omega) hel]
  simp only [↓reduceIte]
  unfold setAddByScan
  refine wpAny_bind ?_
  refine wpAny_bind (wpAny_rule ?_)
  refine wpAny_bind (wpAny_setScan_of hkey ho hd hf hel ?_)
  have hh : (intKind prog w).hash (k : Int) = (k : Int) := by
    have : ∀ q : Fin 8, hashInt (q.val : Int) = (q.val : Int) := by decide +kernel
    exact this ⟨k, hk⟩
  have e : s = { s with heap := s.heap } := by cases s; rfl
  have hfind := find_small (k := k) hE hl
  rw [show List.findIdx? (fun e => (intKind prog w).is (k : Int) e.2) es.toList = if k ∈ ps then some 0 else none from hfind]
  by_cases hm : k ∈ ps
  · rw [if_pos hm]
    dsimp only
    refine wpAny_pure (wpAny_pure ?_)
    have hin : insN k ps = ps := by
      rcases hl with rfl | ⟨p, rfl⟩
      · exact absurd hm (by simp)
      · have : k = p := by simpa using hm
        simp [insN, this]
    rw [e]
    exact h _ s.heap (Heap.SameBut.refl a s.heap) ⟨o, es, ep, ho, hex, by rw [hin]; exact hd, by rw [hin]; exact hE⟩
  · rw [if_neg hm]
    dsimp only
    have hnp : ps = [] ∨ ∃ p, ps = [p] ∧ p ≠ k ∧ p < 8 := by
      rcases hl with rfl | ⟨p, rfl⟩
      · exact .inl rfl
      · exact .inr ⟨p, rfl, fun z => hm (by simp [z]), hp p List.mem_cons_self⟩
    obtain ⟨es', eL, hE'⟩ := lay_small (led := led) (t := t) hE hnp hk
    rw [hh, eL]
    dsimp only
    refine wpAny_bind (wpAny_pure ?_)
    have pl : (tabOf (insN k ps) led).plain = true := rfl
    rw [if_pos pl]
    refine wpAny_bind ?_
    rw [hashByValue_scannable 8 (x := .int k t) rfl]
    refine wpAny_pure ?_
    rw [if_pos (show plainKind (Value.int (k : Int) t) = true from rfl)]
    have lins : insN k ps = [k] ∨ ∃ p q, insN k ps = [p, q] := by
      rcases hnp with rfl | ⟨p, rfl, ne, _⟩
      · exact .inl rfl
      · by_cases hlt : k < p
        · exact .inr ⟨k, p, by simp [insN, hlt, Ne.symm ne]⟩
        · exact .inr ⟨p, k, by simp [insN, hlt, Ne.symm ne]⟩
    have hsz' : es'.size = (insN k ps).length := by rw [← Array.length_toList]; exact hE'.size
    have hz : es'.size ≤ 2 := by rw [hsz']; rcases lins with z | ⟨p, q, z⟩ <;> rw [z] <;> simp
    refine wpAny_bind (wpAny_storeSet_of ho hd ?_ (fits_of_scanBound (by unfold scanBound; omega)))
    have nf : (tabOf (insN k ps) led).tooFull = false := by
      rcases lins with z | ⟨p, q, z⟩
      · rw [z]; exact full1 led _
      · rw [z]; exact full2 led _ _
    rw [nf]
    simp only [Bool.not_false, Bool.and_false, Bool.false_eq_true, ↓reduceIte]
    refine wpAny_pure ?_
    dsimp only
    refine wpAny_pure (h _ _ (Heap.SameBut.update s.heap a _) ?_)
    have hg : (s.heap.update a (Obj.putSet es' (tabOf (insN k ps) led))).get? a = some { o with data := .set es' (ep + 1) (tabOf (insN k ps) led) } := by
      have := Heap.get?_update_self (Obj.putSet es' (tabOf (insN k ps) led)) ho (by rw [putSet_of es' (tabOf (insN k ps) led) hd]; rfl)
      rw [putSet_of es' (tabOf (insN k ps) led) hd] at this
      exact this
    exact ⟨_, es', ep + 1, hg, hex, rfl, hE'⟩
end

/-- the members behind some ints -/
def foldN (ns : List Nat) : List Nat := ns.foldl (fun ps k => insN k ps) []
theorem foldN_snoc (ns : List Nat) (k : Nat) : foldN (ns ++ [k]) = insN k (foldN ns) := by simp [foldN]
theorem SetSm.keep {h h' : Heap} {a : Addr} {ps : List Nat} {led : Bool} (S : SetSm h a ps led) (k : ∀ o, h.get? a = some o → h'.get? a = some o) : SetSm h' a ps led := by
  obtain ⟨o, es, ep, ho, r⟩ := S
  exact ⟨o, es, ep, k o ho, r⟩
theorem foldN_take {ns : List Nat} (h2 : ns.length ≤ 2) (h8 : ∀ k ∈ ns, k < 8) {i : Nat} (hi : i < ns.length) : (foldN (ns.take i) = [] ∨ ∃ p, foldN (ns.take i) = [p]) ∧ ∀ p ∈ foldN (ns.take i), p < 8 := by
  match ns, h2, hi with
  | [], _, hi => simp at hi
  | [k], _, hi =>
    have : i = 0 := by simpa using hi
    subst this
    exact ⟨.inl rfl, fun p hp => by simp [foldN] at hp⟩
  | [k, m], _, hi =>
    have : i = 0 ∨ i = 1 := by simp at hi; omega
    rcases this with rfl | rfl
    · exact ⟨.inl rfl, fun p hp => by simp [foldN] at hp⟩
    · refine ⟨.inr ⟨k, rfl⟩, fun p hp => ?_⟩
      have : p = k := by simpa [foldN, insN] using hp
      rw [this]
      exact h8 k List.mem_cons_self
section
variable {prog : Program} {w : World} {A : Around} {R : Result → Shared → Prop} {I : Addr} {fp wr : List Addr} {G : Array GenState → Array GenState → Prop} {n : Nat} {P : Nat → Value → Prop} {St : Nat → Shared → Prop}
theorem update_small (W : WalksS prog w A.in1 I fp wr G n P St) (S : Addr) (hSf : S ∉ fp) (ns : List Nat) (hn : ns.length = n) (h2 : n ≤ 2) (h8 : ∀ k ∈ ns, k < 8) (led : Bool)
    (hval : ∀ i v, P i v → ∃ t k, ns[i]? = some k ∧ v = .int (k : Int) t) :
    ∀ (k i : Nat) (s : Shared), n - i = k → i ≤ n → St i s → SetSm s.heap S (foldN (ns.take i)) led →
      (∀ s', Moved (S :: wr) G s s' → SetSm s'.heap S (foldN ns) led → R (.ok (.ret .none)) s') →
      codeAny (model prog w) A (.builtin "set.update.loop" ⟨[.ref S, .ref I], []⟩) R s := by
  have hSw : S ∉ wr := fun h => hSf (W.sub _ h)
  have hsub : ∀ b ∈ wr, b ∈ S :: wr := fun b hb => List.mem_cons_of_mem _ hb
  intro k
  induction k with
  | zero =>
    intro i s hk hi hst hS hR
    have hin : i = n := by omega
    subst hin
    refine codeAny_builtin F.entry_set_update_loop ?_
    rw [Around.under_plainId F.plain_set_update_loop _]
    show wpAny _ A.in1 (pyNext (.ref I) >>= _) _ _ s
    refine wpAny_bind (W.done s _ _ hst fun s' hm => ?_)
    show wpAny _ A.in1 (ret Value.none) _ _ s'
    refine wpAny_pure (hR s' (hm.mono hsub) ?_)
    rw [← hn, List.take_length] at hS
    exact hS.keep fun o ho => hm.heap S _ hSw ho
  | succ k ih =>
    intro i s hk hi hst hS hR
    have hlt : i < n := by omega
    refine codeAny_builtin F.entry_set_update_loop ?_
    rw [Around.under_plainId F.plain_set_update_loop _]
    show wpAny _ A.in1 (pyNext (.ref I) >>= _) _ _ s
    refine wpAny_bind (W.item i s _ _ hlt hst fun v s' hP hst' hm => ?_)
    obtain ⟨t, q, hq, rfl⟩ := hval i v hP
    have hS' := hS.keep fun o ho => hm.heap S _ hSw ho
    show wpAny _ A.in1 (holding [Value.int (q : Int) t] (setAdd S (.int (q : Int) t)) >>= _) _ _ s'
    refine wpAny_bind (wpAny_holding ?_)
    unfold setAdd
    refine wpAny_holding ?_
    refine wpAny_bind ((intKind prog w).pyHash (k := (q : Int)) (intKind_is _ _ _ _) ?_)
    obtain ⟨f1, f2⟩ := foldN_take (by omega : ns.length ≤ 2) h8 (by omega : i < ns.length)
    refine add_small (s := { s' with toks := s'.toks + 1 }) hS' f1 f2 (h8 q (List.mem_of_getElem? hq)) fun b h' hsb hS2 => ?_
    have et : ns.take (i + 1) = ns.take i ++ [q] := by
      rw [List.take_succ, hq]
      rfl
    refine wpAny_pure ⟨plainId_quiet F.plain_set_update_loop _, ih (i + 1) _ (by omega) hlt (W.frame _ s' _ _ hst' (Nat.le_succ _) fun b hb o e => ?_) (by rw [et, foldN_snoc]; exact hS2) fun s'' hm'' hS'' => ?_⟩
    · rw [hsb.2 b (fun h : b = S => hSf (by rw [← h]; exact hb))]; exact e
    · refine hR s'' (Moved.trans W.gtrans ((hm.mono hsub).then_heap (Nat.le_succ _) fun b o hb e => ?_) hm'') hS''
      rw [hsb.2 b (fun h : b = S => hb (by rw [h]; exact List.mem_cons_self))]; exact e
end
section
variable {prog : Program} {w : World} {A : Around} {E : Value → Shared → Prop} {s : Shared}
def ledOf (w : World) : Bool := !w.params.followText "set-order"
theorem set_new_led (a : Value) {Q₁ : Value → Shared → Prop}
    (h : Q₁ (.ref s.heap.objs.size) { s with heap := s.heap.push { cls := .type "set", dict := none, data := .set #[] 0 (.fresh 0 0 (ledOf w)) } }) :
    codeAny (model prog w) A (.call (.builtin "set.__new__") ⟨[.type "set", a], []⟩) (wants Q₁ E) s := by
  refine codeAny_of_tree ?_
  show wpAny _ A.in1 (do checkBuiltinCall "set.__new__" ⟨[.type "set", a], []⟩; again (.builtin "set.__new__" ⟨[.type "set", a], []⟩)) _ _ s
  refine wpAny_bind (wpAny_of_eq (F.newCall_set_1 a) (wpAny_pure ⟨plainId_quiet F.plain_set_new _, codeAny_builtin F.entry_set_new ?_⟩))
  rw [Around.under_plainId F.plain_set_new _]
  unfold Builtin.«set.__new__» Builtin.Frozenset.newClass
  have hsub := sub_set_self
  obtain ⟨hp, g, d, tk, os⟩ := s
  dsimp only
  wp_walk
  refine wpAny_askSetting (wpAny_pure ?_)
  dsimp only
  simp only [newObj]
  refine wpAny_bind (wpAny_alloc (wpAny_pure ?_))
  exact wpAny_pure h
end

section
variable {prog : Program} {w : World} {A : Around} {E : Value → Shared → Prop} {s : Shared}
set_option maxHeartbeats 3200000 in
/-- set(l), l a list of at most two ints below 8 -/
theorem call_set_small {l : Addr} {items : Array Value} {ns : List Nat} {Q : Value → Shared → Prop}
    (hh : A.handled = none) (hl : s.heap.IsList l items) (hi : IntsAre items.toList (ns.map fun (k : Nat) => (k : Int))) (h2 : ns.length ≤ 2) (h8 : ∀ k ∈ ns, k < 8)
    (h : ∀ (h' : Heap) (tk : Nat), SetSm h' s.heap.objs.size (foldN ns) (ledOf w) → (∀ b o, b < s.heap.objs.size → s.heap.get? b = some o → h'.get? b = some o) → Q (.ref s.heap.objs.size) { s with heap := h', toks := tk }) :
    wpAny (model prog w) A (call (.type "set") [.ref l]) Q E s := by
  have hlen : ns.length = items.size := by
    have := hi.length
    rw [Array.length_toList, List.length_map] at this
    omega
  obtain ⟨c, tl, hmro⟩ := PySem.F.called_set.mro
  have hmade := PySem.F.called_set.made
  have hsub := PySem.F.called_set.sub
  refine wpAny_call (codeAny_of_tree ?_)
  show wpAny _ _ (callAny (.type "set") _) _ _ _
  refine wpAny_pure ⟨Code.quiet_builtin _ (by decide +kernel), codeAny_builtin PySem.F.entry_type_call ?_⟩
  rw [Around.under_plain (weight_type_call_type "set" [.ref l] []) rfl]
  have h1 := PySem.F.called_set.notType
  have h2' := PySem.F.called_set.canCreate
  have hct := PySem.F.typeCall_set_1 (.ref l)
  repeat (any_goals (first | assumption | wp_step))
  refine codeAny_mono (set_new_led (.ref l) (E := E) (Q₁ := fun obj s₁ => obj = .ref s.heap.objs.size ∧ s₁ = { s with heap := s.heap.push { cls := .type "set", dict := none, data := .set #[] 0 (.fresh 0 0 (ledOf w)) } }) ⟨rfl, rfl⟩) fun r s₁ hr => ?_
  cases r with
  | error e => exact hr
  | ok fl =>
    cases fl with
    | ret obj =>
      obtain ⟨rfl, rfl⟩ := hr
      have hS : (s.heap.push { cls := .type "set", dict := none, data := .set #[] 0 (.fresh 0 0 (ledOf w)) }).get? s.heap.objs.size = some { cls := .type "set", dict := none, data := .set #[] 0 (.fresh 0 0 (ledOf w)) } := Heap.get?_push_size _ rfl
      have hT : Shared.TypeIs { s with heap := s.heap.push { cls := .type "set", dict := none, data := .set #[] 0 (.fresh 0 0 (ledOf w)) } } (.ref s.heap.objs.size) "set" := ⟨_, hS, rfl⟩
      have hli := PySem.F.called_set.init.lookup
      have hbi := PySem.F.called_set.init.bind (.ref s.heap.objs.size)
      repeat (any_goals (first | assumption | wp_step))
      refine codeAny_mono (codeAny_call_builtin (R := wants (fun r s₂ => r = .none ∧ ∃ h' tk, s₂ = { s with heap := h', toks := tk } ∧ SetSm h' s.heap.objs.size (foldN ns) (ledOf w) ∧
          (∀ b o, b < s.heap.objs.size → s.heap.get? b = some o → h'.get? b = some o)) E) PySem.F.called_set.init.plain PySem.F.entry_set_init (PySem.check_set_init_1 hT ?_)) fun r₂ s₂ hr₂ => ?_
      · obtain ⟨ol, hol, hcl, nl, hdl⟩ := hl
        obtain ⟨ocls, odict, odata, oslots⟩ := ol
        simp only at hcl hdl
        subst hcl; subst hdl
        have hol' : (s.heap.push { cls := .type "set", dict := none, data := .set #[] 0 (.fresh 0 0 (ledOf w)) }).get? l = some { cls := .type "list", dict := odict, data := .seq items nl, slots := oslots } := Heap.get?_push_of_some _ hol
        have hsls := PySem.F.sub_list_set
        have hslf := PySem.F.sub_list_frozenset
        have hne : (Value.type "list" == Value.type "dict") = false := by decide
        have hl1 : (s.heap.push { cls := .type "set", dict := none, data := .set #[] 0 (.fresh 0 0 (ledOf w)) }).IsList l items := ⟨_, hol', rfl, nl, rfl⟩
        unfold Builtin.«set.__init__» noKeywords Builtin.Frozenset.updateFrom
        generalize hPI : pyIter = PI
        wp_walk
        subst hPI
        refine wpAny_pyIter_list hl1 ?_
        refine wpAny_bind (wpAny_runValue ?_)
        have hlS : l < s.heap.objs.size := Heap.lt_size hol
        have hh3 : A.in1.in1.in1.handled = none := by simp [hh]
        have hneI : l ≠ (s.heap.push { cls := .type "set", dict := none, data := .set #[] 0 (.fresh 0 0 (ledOf w)) }).objs.size := by
          rw [Heap.size_push]; exact Nat.ne_of_lt (Nat.lt_succ_of_lt hlS)
        have hSf : s.heap.objs.size ∉ [(s.heap.push { cls := .type "set", dict := none, data := .set #[] 0 (.fresh 0 0 (ledOf w)) }).objs.size, l] := by
          rw [Heap.size_push]; simp only [List.mem_cons, List.mem_singleton, List.not_mem_nil, or_false, not_or]
          exact ⟨Nat.ne_of_lt (Nat.lt_succ_self _), Nat.ne_of_gt hlS⟩
        have hval : ∀ (i : Nat) (v : Value), items[i]? = some v → ∃ t k, ns[i]? = some k ∧ v = .int (k : Int) t := fun i v hv => by
          obtain ⟨t, e⟩ := IntsAre.int_at hi i v (by rw [Array.getElem?_toList]; exact hv)
          have hlt : i < items.size := (Array.getElem?_eq_some_iff.mp hv).1
          refine ⟨t, ns[i], List.getElem?_eq_getElem (by omega), ?_⟩
          rw [e]
          congr 1
          simp [List.getD, show i < ns.length by omega]
        refine update_small ((Walks.list hh3 _ l hneI items).toS) s.heap.objs.size hSf ns hlen (by omega) h8 (ledOf w) hval (items.size - 0) 0 _ (by omega) (Nat.zero_le _)
          ⟨⟨_, Heap.get?_push_size _ rfl, rfl, rfl⟩, (hl1.push _)⟩ ?hS0 ?hR
        case hS0 =>
          have hget : ((s.heap.push { cls := .type "set", dict := none, data := .set #[] 0 (.fresh 0 0 (ledOf w)) }).push { cls := .type "list_iterator", data := .fields #[.ref l, .int 0 0] }).get? s.heap.objs.size
              = some { cls := .type "set", dict := none, data := .set #[] 0 (.fresh 0 0 (ledOf w)) } := Heap.get?_push_of_some _ hS
          exact ⟨_, #[], 0, hget, ⟨rfl, rfl, rfl⟩, rfl, .nil⟩
        case hR =>
          intro s' hm hS'
          obtain ⟨h', g', d', tk', os'⟩ := s'
          have eg : g' = s.gens := hm.gens
          have ed : d' = s.drawn := hm.drawn
          have eo : os' = s.os := hm.os
          subst eg; subst ed; subst eo
          show wpAny _ _ _ _ _ _
          refine wpAny_pure ?_
          show wpAny _ _ (ret Value.none) _ _ _
          refine wpAny_pure ⟨rfl, h', tk', rfl, hS', fun b o hb e => ?_⟩
          have hb1 : b ≠ s.heap.objs.size := Nat.ne_of_lt hb
          have hb2 : b ≠ (s.heap.push { cls := .type "set", dict := none, data := .set #[] 0 (.fresh 0 0 (ledOf w)) }).objs.size := by
            rw [Heap.size_push]; exact Nat.ne_of_lt (Nat.lt_succ_of_lt hb)
          exact hm.heap b o (by simp only [List.mem_cons, List.mem_singleton, List.not_mem_nil, or_false, not_or]; exact ⟨hb1, hb2⟩) (Heap.get?_push_of_some _ (Heap.get?_push_of_some _ e))
      · cases r₂ with
        | error e => exact hr₂
        | ok fl₂ =>
          cases fl₂ with
          | ret r =>
            obtain ⟨rfl, h', tk, rfl, hS', hk'⟩ := hr₂
            repeat (any_goals (first | assumption | wp_step))
            exact h _ _ hS' hk'
          | _ => exact hr₂.elim
    | _ => exact hr.elim
end
end L2

set_option Elab.async false
set_option linter.all false
set_option maxRecDepth 100000
namespace L2
open PySem PySem.Spec PyProof.Rows
/-! ### a small set walked -/
theorem slot_setit_next : Slot "set_iterator" "__next__" "set_iterator.__next__" :=
  .of (owner := "set_iterator") (n := "__next__") (by rw [typeLookup_type, builtinLookup_eq_fast]; kernel_rfl) (by decide +kernel) (by decide +kernel) (by decide +kernel)
    (by first | exact .inl (by decide +kernel) | exact .inr (by decide +kernel)) (by rw [isSubtype_type]; kernel_rfl)
theorem slot_setit_iter : Slot "set_iterator" "__iter__" "set_iterator.__iter__" :=
  .of (owner := "set_iterator") (n := "__iter__") (by rw [typeLookup_type, builtinLookup_eq_fast]; kernel_rfl) (by decide +kernel) (by decide +kernel) (by decide +kernel)
    (by first | exact .inl (by decide +kernel) | exact .inr (by decide +kernel)) (by rw [isSubtype_type]; kernel_rfl)
theorem entry_setit_next : entryFor table "set_iterator.__next__" = some Builtin.«set_iterator.__next__» := entryFor_of_tree (by kernel_rfl)
theorem args_setit_next (a : Value) : argsOk "set_iterator.__next__" ⟨[a], []⟩ := by unfold argsOk; kernel_rfl
theorem entry_set_iter' : entryFor table "set.__iter__" = some Builtin.«frozenset.__iter__» :=
  entryFor_alias (id' := "frozenset.__iter__") (by kernel_rfl) rfl (by decide +kernel) (by kernel_rfl)
theorem pick_go {α : Type} (next : Nat → Nat) : ∀ (n k : Nat) (left : List α) (out : Array α), left.length = n → ((pickOrder.go next n k left out).toList).Perm (out.toList ++ left)
  | 0, k, left, out, h => by
    have : left = [] := List.length_eq_zero_iff.mp h
    subst this
    simp [pickOrder.go]
  | n + 1, k, left, out, h => by
    have hlt : next k % left.length < left.length := Nat.mod_lt _ (by omega)
    rw [pickOrder.go, List.getElem?_eq_getElem hlt]
    dsimp only
    refine (pick_go next n (k + 1) _ _ (by rw [List.length_eraseIdx, if_pos hlt]; omega)).trans ?_
    rw [Array.toList_push, List.append_assoc]
    refine List.Perm.append_left _ ?_
    have := List.perm_middle (a := left[next k % left.length]) (l₁ := left.take (next k % left.length)) (l₂ := left.drop (next k % left.length + 1))
    rw [List.eraseIdx_eq_take_drop_succ, List.singleton_append]
    refine this.symm.trans ?_
    rw [← List.drop_eq_getElem_cons hlt, List.take_append_drop]
theorem pick_perm {α : Type} (next : Nat → Nat) (xs : Array α) : (pickOrder next xs).toList.Perm xs.toList := by
  have := pick_go next xs.size 0 xs.toList #[] (by simp)
  simpa [pickOrder] using this
end L2

set_option Elab.async false
set_option linter.all false
set_option maxRecDepth 100000
namespace L2
open PySem PySem.Spec PyProof.Rows
/-- the order in which a set at a is walked -/
def ordOf (w : World) (a : Addr) (ep : Nat) (es : Array (Int × Value)) : Array (Int × Value) := if w.params.followText "set-order" then pickOrder (w.params.setOrder a ep) es else es
theorem ord_perm (w : World) (a : Addr) (ep : Nat) (es : Array (Int × Value)) : (ordOf w a ep es).toList.Perm es.toList := by
  unfold ordOf
  split
  · exact pick_perm _ _
  · exact .refl _
def slotAt (w : World) (ps : List Nat) (i : Nat) : Nat := if w.params.followText "set-order" then 0 else match i with
  | 0 => 0
  | j + 1 => ps.getD j 0 + 1
/-- the set as it lies there -/
structure SmAt (w : World) (h : Heap) (a : Addr) (ps : List Nat) (es : Array (Int × Value)) (ep : Nat) : Prop where
  at_ : ∃ o, h.get? a = some o ∧ o.ExactSet ∧ o.data = .set es ep (tabOf ps (ledOf w))
  ent : EntP ps es.toList
  two : ps.length ≤ 2
  rise : ps.Pairwise (· < ·)
theorem SmAt.size {w : World} {h : Heap} {a : Addr} {ps : List Nat} {es : Array (Int × Value)} {ep : Nat} (S : SmAt w h a ps es ep) : es.size = ps.length := by
  rw [← Array.length_toList]
  exact S.ent.size
theorem below_small {ps : List Nat} (h2 : ps.length ≤ 2) (hr : ps.Pairwise (· < ·)) : ∀ i, i ≤ ps.length → SetTable.below ps.toArray (match i with | 0 => 0 | j + 1 => ps.getD j 0 + 1) = i := by
  match ps, h2, hr with
  | [], _, _ =>
    intro i hi
    have : i = 0 := by simpa using hi
    subst this
    rfl
  | [p], _, _ =>
    intro i hi
    have : i = 0 ∨ i = 1 := by simp at hi; omega
    rcases this with rfl | rfl
    · simp [SetTable.below, SetTable.below.go]
    · simp [SetTable.below, SetTable.below.go]
  | [p, q], _, hr =>
    intro i hi
    have hpq : p < q := by simpa using hr
    have : i = 0 ∨ i = 1 ∨ i = 2 := by simp at hi; omega
    rcases this with rfl | rfl | rfl
    · simp [SetTable.below, SetTable.below.go]
    · have : ¬ q < p + 1 := by omega
      simp [SetTable.below, SetTable.below.go, this]
    · simp [SetTable.below, SetTable.below.go]
section
variable {prog : Program} {w : World} {A : Around} {E : Value → Shared → Prop} {s : Shared}
theorem setNext_small {a : Addr} {ps : List Nat} {es : Array (Int × Value)} {ep i : Nat} {Q : Option (Value × Nat) → Shared → Prop} (S : SmAt w s.heap a ps es ep) (hi : i ≤ ps.length)
    (h : Q (((ordOf w a ep es)[i]?).map fun e => (e.2, slotAt w ps (i + 1))) s) : wpAny (model prog w) A (setNext a (slotAt w ps i) i ep) Q E s := by
  obtain ⟨o, ho, hex, hd⟩ := S.at_
  have hf : (tabOf ps (ledOf w)).fits es.size = true := by rw [S.size]; exact fitsN S.two
  unfold setNext
  refine wpAny_bind (wpAny_setState_of ho hd hf ?_)
  dsimp only
  refine wpAny_bind ?_
  unfold setsByText
  refine wpAny_bind (wpAny_askSetting (wpAny_pure ?_))
  dsimp only
  cases hb : w.params.followText "set-order" with
  | true =>
    have hb' : (model prog w).w.params.followText "set-order" = true := hb
    rw [if_pos hb']
    rw [if_neg (by simp)]
    unfold setWalk
    refine wpAny_bind (wpAny_bind (wpAny_setState_of ho hd hf ?_))
    dsimp only
    unfold setsByText
    refine wpAny_bind (wpAny_bind (wpAny_askSetting (wpAny_pure ?_)))
    dsimp only
    rw [if_pos hb']
    refine wpAny_bind (wpAny_askSetting (wpAny_pure (wpAny_pure ?_)))
    have e1 : ordOf w a ep es = pickOrder (w.params.setOrder a ep) es := by unfold ordOf; rw [if_pos hb]
    have e2 : ∀ j, slotAt w ps j = 0 := fun j => by unfold slotAt; rw [if_pos hb]
    rw [e1, e2] at h
    rw [e2]
    exact h
  | false =>
    have hb' : ¬ (model prog w).w.params.followText "set-order" = true := by
      show ¬ w.params.followText "set-order" = true
      rw [hb]
      exact Bool.false_ne_true
    rw [if_neg hb']
    have hled : ledOf w = true := by unfold ledOf; rw [hb]; rfl
    rw [hled]
    split
    · rename_i hz
      exact Bool.noConfusion (show false = true from hz)
    · refine wpAny_bind ?_
      show wpAny _ _ (pure PUnit.unit) _ _ _
      refine wpAny_pure (wpAny_pure ?_)
      have e1 : ordOf w a ep es = es := by unfold ordOf; rw [if_neg (by rw [hb]; exact Bool.false_ne_true)]
      have e2 : ∀ j, slotAt w ps j = (match j with | 0 => 0 | j + 1 => ps.getD j 0 + 1) := fun j => by unfold slotAt; rw [if_neg (by rw [hb]; exact Bool.false_ne_true)]
      rw [e1, e2] at h
      rw [e2]
      have hbl := below_small S.two S.rise i hi
      have hplace : (tabOf ps true).place = ps.toArray := rfl
      rw [hplace, hbl]
      have hsz := S.size
      by_cases hlt : i < ps.length
      · have g1 : es[i]? = some es[i] := Array.getElem?_eq_getElem (by omega)
        have g2 : ps.toArray[i]? = some ps[i] := by simp [hlt]
        rw [g1, g2]
        rw [g1] at h
        have g3 : ps.getD i 0 = ps[i] := by simp [List.getD, hlt]
        have h' : Q (some (es[i].2, ps.getD i 0 + 1)) s := h
        rw [g3] at h'
        exact h'
      · have g1 : es[i]? = none := Array.getElem?_eq_none (by omega)
        rw [g1]
        rw [g1] at h
        exact h

/-- the walker -/
def SetIt (h : Heap) (it a : Addr) (slot i n ep : Nat) : Prop := ∃ o, h.get? it = some o ∧ o.cls = .type "set_iterator" ∧ o.data = .fields #[.int slot 0, .int i 0, .ref a, .int n 0, .int ep 0]
theorem SetIt.typeIs {it a : Addr} {slot i n ep : Nat} (h : SetIt s.heap it a slot i n ep) : s.TypeIs (.ref it) "set_iterator" := let ⟨o, ho, hc, _⟩ := h; ⟨o, ho, hc⟩
theorem next_item {it a : Addr} {ps : List Nat} {es : Array (Int × Value)} {ep i : Nat} {x : Int × Value} {Q : Option Value → Shared → Prop} (hit : SetIt s.heap it a (slotAt w ps i) i ps.length ep) (S : SmAt w s.heap a ps es ep) (hi : i < ps.length)
    (hx : (ordOf w a ep es)[i]? = some x) (hQ : ∀ h', SetIt h' it a (slotAt w ps (i + 1)) (i + 1) ps.length ep → Heap.SameBut it s.heap h' → Q (some x.2) { s with heap := h' }) : wpAny (model prog w) A (pyNext (.ref it)) Q E s := by
  obtain ⟨o, ho, hc, hd⟩ := id hit
  obtain ⟨oS, hoS, hexS, hdS⟩ := S.at_
  have hf : (tabOf ps (ledOf w)).fits es.size = true := by rw [S.size]; exact fitsN S.two
  unfold pyNext
  refine wpAny_bind (wpAny_attempt (wpAny_callSpecial?_slot (name := Str.ofString "__next__") hit.typeIs slot_setit_next
    (wpAny_call_entry slot_setit_next hit.typeIs entry_setit_next ?_ (args_setit_next _))))
  show wpAny _ _ (fieldsOf (.ref it) >>= _) _ _ s
  refine wpAny_bind (wpAny_fieldsOf ho hd ?_)
  dsimp only
  show wpAny _ _ (setEntries a >>= _) _ _ s
  refine wpAny_bind (wpAny_setEntries_of hoS hdS hf ?_)
  have hsz : ((es.size : Int) != (ps.length : Int)) = false := by rw [S.size]; simp
  rw [hsz]
  simp only [Bool.false_eq_true, if_false]
  show wpAny _ _ (setNext a (Int.toNat (slotAt w ps i : Int)) (Int.toNat (i : Int)) (Int.toNat (ep : Int)) >>= _) _ _ s
  rw [Int.toNat_natCast, Int.toNat_natCast, Int.toNat_natCast]
  refine wpAny_bind (setNext_small S (by omega) ?_)
  rw [hx]
  show wpAny _ _ (setField (.ref it) 0 (rawInt (slotAt w ps (i + 1))) >>= _) _ _ s
  refine wpAny_bind (wpAny_setField ho hd (by simp) ?_)
  have hg1 := Heap.get?_update_self (h := s.heap) (a := it) (o := o) (Obj.mapFields (·.setIfInBounds 0 (rawInt (slotAt w ps (i + 1))))) ho (Obj.isFreed_of_fields (Obj.data_mapFields hd _))
  refine wpAny_bind (wpAny_setField hg1 (Obj.data_mapFields hd _) (by simp) ?_)
  refine wpAny_pure ⟨x.2, rfl, wpAny_pure (hQ _ ?_ ((Heap.SameBut.update ..).trans (Heap.SameBut.update ..)))⟩
  exact ⟨_, Heap.get?_update_self _ hg1 (Obj.isFreed_of_fields (Obj.data_mapFields (Obj.data_mapFields hd _) _)), (Obj.cls_mapFields ..).trans ((Obj.cls_mapFields ..).trans hc), by
    rw [Obj.data_mapFields (Obj.data_mapFields hd _)]; simp [rawInt]⟩
theorem next_end {it a : Addr} {ps : List Nat} {es : Array (Int × Value)} {ep : Nat} {Q : Option Value → Shared → Prop} (hh : A.handled = none) (hit : SetIt s.heap it a (slotAt w ps ps.length) ps.length ps.length ep) (S : SmAt w s.heap a ps es ep)
    (hQ : ∀ h', Heap.ExtBut it s.heap h' → Q none { s with heap := h' }) : wpAny (model prog w) A (pyNext (.ref it)) Q E s := by
  obtain ⟨o, ho, hc, hd⟩ := id hit
  obtain ⟨oS, hoS, hexS, hdS⟩ := S.at_
  have hf : (tabOf ps (ledOf w)).fits es.size = true := by rw [S.size]; exact fitsN S.two
  unfold pyNext
  refine wpAny_bind (wpAny_attempt (wpAny_callSpecial?_slot (name := Str.ofString "__next__") hit.typeIs slot_setit_next
    (wpAny_call_entry slot_setit_next hit.typeIs entry_setit_next ?_ (args_setit_next _))))
  show wpAny _ _ (fieldsOf (.ref it) >>= _) _ _ s
  refine wpAny_bind (wpAny_fieldsOf ho hd ?_)
  dsimp only
  show wpAny _ _ (setEntries a >>= _) _ _ s
  refine wpAny_bind (wpAny_setEntries_of hoS hdS hf ?_)
  have hsz : ((es.size : Int) != (ps.length : Int)) = false := by rw [S.size]; simp
  rw [hsz]
  simp only [Bool.false_eq_true, if_false]
  show wpAny _ _ (setNext a (Int.toNat (slotAt w ps ps.length : Int)) (Int.toNat (ps.length : Int)) (Int.toNat (ep : Int)) >>= _) _ _ s
  rw [Int.toNat_natCast, Int.toNat_natCast, Int.toNat_natCast]
  refine wpAny_bind (setNext_small S (Nat.le_refl _) ?_)
  have ho' : (ordOf w a ep es)[ps.length]? = none := by
    refine Array.getElem?_eq_none ?_
    have := (ord_perm w a ep es).length_eq
    rw [Array.length_toList, Array.length_toList, S.size] at this
    omega
  rw [ho']
  show wpAny _ _ (setField (.ref it) 2 .none >>= _) _ _ s
  refine wpAny_bind (wpAny_setField ho hd (by simp) ?_)
  show wpAny _ _ (newExc (.type "StopIteration") [] >>= _) _ _ _
  refine wpAny_bind ?_
  simp only [newExc, newTuple]
  refine wpAny_bind (wpAny_newObj_type ?_ (by size_fits))
  refine wpAny_bind (m := firstArgMember _ _) (wpAny_of_eq (a := Value.none) (by first | rfl | (simp only [firstArgMember]; rfl)) ?_)
  refine wpAny_newObj_type ?_ (by size_fits)
  simp only [raiseNew]
  refine wpAny_bind (wpAny_handled ?_)
  first | rw [show A.in1.handled = none from hh] | rw [hh]
  refine wpAny_bind (wpAny_pure (wpAny_throw ?_))
  refine wpAny_bind (wpAny_isInstance (T := "StopIteration") (b := true) ⟨_, Heap.get?_push_size _ rfl, rfl⟩ isSubtype_stop ?_)
  exact wpAny_pure (hQ _ (((Heap.SameBut.update ..).extBut.push _).push _))

theorem SmAt.keep {h h' : Heap} {a : Addr} {ps : List Nat} {es : Array (Int × Value)} {ep : Nat} (S : SmAt w h a ps es ep) (k : ∀ o, h.get? a = some o → h'.get? a = some o) : SmAt w h' a ps es ep := by
  obtain ⟨⟨o, ho, r⟩, a1, a2, a3⟩ := S
  exact ⟨⟨o, k o ho, r⟩, a1, a2, a3⟩
end
theorem entry_setit_iter : entryFor table "set_iterator.__iter__" = some Builtin.«dict_keyiterator.__iter__» :=
  entryFor_alias (id' := "dict_keyiterator.__iter__") (by kernel_rfl) (by first | rfl | decide +kernel | (unfold String.splitOn; simp +decide [String.splitOnAux])) (by decide +kernel) (by kernel_rfl)
theorem args_setit_iter (a : Value) : argsOk "set_iterator.__iter__" ⟨[a], []⟩ := by unfold argsOk; kernel_rfl
theorem walks_small {prog : Program} {w : World} {A : Around} (hh : A.handled = none) (I a : Addr) (hne : a ≠ I) (ps : List Nat) (es : Array (Int × Value)) (ep : Nat) :
    Walks prog w A I [I, a] [I] ps.length (fun i v => ∃ x, (ordOf w a ep es)[i]? = some x ∧ v = x.2) (fun i h => SetIt h I a (slotAt w ps i) i ps.length ep ∧ SmAt w h a ps es ep) where
  sub := fun b hb => by simp at hb; simp [hb]
  frame := fun _ _ _ st hk => ⟨let ⟨o, ho, r⟩ := st.1; ⟨o, hk I (by simp) o ho, r⟩, st.2.keep fun o e => hk a (by simp) o e⟩
  item := fun i s Q E hi st hQ => by
    have hlt : i < (ordOf w a ep es).size := by
      have := (ord_perm w a ep es).length_eq
      rw [Array.length_toList, Array.length_toList, st.2.size] at this
      omega
    refine next_item st.1 st.2 hi (x := (ordOf w a ep es)[i]) (Array.getElem?_eq_getElem hlt) fun h' hit' hs' => ?_
    exact hQ _ h' s.toks ⟨_, Array.getElem?_eq_getElem hlt, rfl⟩ ⟨hit', st.2.keep fun o e => hs'.extBut a o hne e⟩ fun b o hb e => hs'.extBut b o (fun h => hb (by simp [h])) e
  done := fun s Q E st hQ => next_end hh st.1 st.2 fun h' he' => hQ h' s.toks fun b o hb e => he' b o (fun h => hb (by simp [h])) e
  self := fun _ _ _ _ st hQ => by
    refine wpAny_pyIter_slot st.1.typeIs slot_setit_iter (wpAny_call_entry slot_setit_iter st.1.typeIs entry_setit_iter ?_ (args_setit_iter _))
    show wpAny _ _ (ret (.ref I)) _ _ _
    exact wpAny_pure ⟨_, rfl, "set_iterator", _, st.1.typeIs, slot_setit_next.lookup, hQ⟩
section
variable {prog : Program} {w : World} {A : Around} {E : Value → Shared → Prop} {s : Shared}
theorem iter_small {a : Addr} {ps : List Nat} {es : Array (Int × Value)} {ep : Nat} {Q : Value → Shared → Prop} (S : SmAt w s.heap a ps es ep)
    (hQ : Q (.ref s.heap.objs.size) { s with heap := s.heap.push { cls := .type "set_iterator", data := .fields #[.int 0 0, .int 0 0, .ref a, .int ps.length 0, .int ep 0] } }) : wpAny (model prog w) A (pyIter (.ref a)) Q E s := by
  obtain ⟨o, ho, hex, hd⟩ := S.at_
  have hf : (tabOf ps (ledOf w)).fits es.size = true := by rw [S.size]; exact fitsN S.two
  have hT : s.TypeIs (.ref a) "set" := ⟨o, ho, hex.1⟩
  refine wpAny_pyIter_slot hT PySem.F.slot_set_iter (wpAny_call_entry PySem.F.slot_set_iter hT entry_set_iter' ?_ (PySem.F.args_set_iter_1 _))
  unfold Builtin.«frozenset.__iter__» Builtin.Frozenset.slot0 slotArgs
  simp only [List.isEmpty_nil, Bool.not_true, Bool.false_eq_true, ↓reduceIte, bind_assoc, List.length_nil, bne_self_eq_false]
  unfold Builtin.Frozenset.addrOf Builtin.Frozenset.sizeOf
  refine wpAny_bind (wpAny_pure ?_)
  try dsimp only
  refine wpAny_bind (wpAny_pure ?_)
  refine wpAny_bind (wpAny_bind (wpAny_setEntries_of ho hd hf (wpAny_pure ?_)))
  unfold setDrawn
  refine wpAny_bind (wpAny_bind (wpAny_setState_of ho hd hf ?_))
  dsimp only
  unfold setsByText
  refine wpAny_bind (wpAny_bind (wpAny_askSetting (wpAny_pure ?_)))
  refine wpAny_pure ?_
  split
  · rename_i hz
    rw [Bool.and_eq_true] at hz
    exact Bool.noConfusion (show false = true from hz.2)
  · refine wpAny_bind (wpAny_pure ?_)
    refine wpAny_bind (wpAny_setEpoch_of ho hd hf ?_)
    refine wpAny_bind (wpAny_newObj_type (wpAny_pure ⟨_, rfl, "set_iterator", _, ⟨_, Heap.get?_push_size _ rfl, rfl⟩, slot_setit_next.lookup, ?_⟩))
    rw [S.size]
    exact hQ

theorem set_len_slot : typeLookup (.type "set") "__len__" = pure (some (.builtin "set.__len__")) := by rw [typeLookup_type, builtinLookup_eq_fast]; kernel_rfl
theorem collect_small {a : Addr} {ps : List Nat} {es : Array (Int × Value)} {ep : Nat} {Q : List Value → Shared → Prop} (hh : A.handled = none) (S : SmAt w s.heap a ps es ep)
    (hQ : ∀ s' acc, (∀ b o, s.heap.get? b = some o → s'.heap.get? b = some o) → s.heap.objs.size ≤ s'.heap.objs.size → s'.gens = s.gens → s'.drawn = s.drawn → s'.os = s.os → ItemsOf (fun i v => ∃ x, (ordOf w a ep es)[i]? = some x ∧ v = x.2) acc ps.length → Q acc.toList s') :
    wpAny (model prog w) A (collect (.ref a)) Q E s := by
  have hn : ps.length ≤ sizeLine := Nat.le_trans S.two (by decide)
  unfold collect
  refine wpAny_bind (wpAny_runValue (codeAny_builtin PySem.F.entry_proto_collect ?_))
  rw [Around.under_plainId PySem.F.plain_proto_collect _]
  show wpAny _ A.in1 (newList [] >>= fun l => again (.builtin "list.__iadd__" ⟨[l, .ref a], []⟩)) _ _ s
  refine wpAny_bind (wpAny_newObj_type ?_)
  refine wpAny_pure ⟨plainId_quiet PySem.F.plain_list_iadd _, codeAny_builtin PySem.F.entry_list_iadd ?_⟩
  rw [Around.under_plainId PySem.F.plain_list_iadd _]
  show wpAny _ A.in1 (Builtin.List.listExtendWith (.ref s.heap.objs.size) (.ref a) (.ref s.heap.objs.size)) _ _ _
  unfold Builtin.List.listExtendWith
  obtain ⟨o, ho, hex, hd⟩ := id S.at_
  have ha : a < s.heap.objs.size := Heap.lt_size ho
  have S1 : SmAt w (s.heap.push { cls := .type "list", data := .seq ([] : List Value).toArray }) a ps es ep := S.keep fun o e => Heap.get?_push_of_some _ e
  have hT : Shared.TypeIs { s with heap := s.heap.push { cls := .type "list", data := .seq ([] : List Value).toArray } } (.ref a) "set" := ⟨o, Heap.get?_push_of_some _ ho, hex.1⟩
  refine wpAny_bind (wpAny_typeOf (T := "set") (v := .ref a) hT ?_)
  have h1 : Builtin.List.listSameRef (.ref s.heap.objs.size) (.ref a) = false := by
    show (s.heap.objs.size == a) = false
    have : ¬ s.heap.objs.size = a := Nat.ne_of_gt ha
    simpa using this
  have h2 : (Value.type "set" == Value.type "list") = false := by decide
  have h3 : (Value.type "set" == Value.type "tuple") = false := by decide
  simp only [h1, h2, h3, Bool.or_false, Bool.false_eq_true, if_false]
  refine wpAny_bind (iter_small S1 ?_)
  refine wpAny_bind (wpAny_holding ?_)
  unfold Builtin.List.listLengthHint
  refine wpAny_bind (wpAny_specialOf (T := "set") (v := .ref a) ⟨o, Heap.get?_push_of_some _ (Heap.get?_push_of_some _ ho), hex.1⟩ set_len_slot ?_)
  wp_delta
  refine wpAny_bind (wpAny_isInstance (T := "set") (v := .ref a) (b := true) ⟨o, Heap.get?_push_of_some _ (Heap.get?_push_of_some _ ho), hex.1⟩ (by rw [isSubtype_type]; kernel_rfl) ?_)
  show wpAny _ A.in1 (typeOf (Value.ref a) >>= _) _ _ _
  refine wpAny_bind (wpAny_typeOf (T := "set") (v := .ref a) ⟨o, Heap.get?_push_of_some _ (Heap.get?_push_of_some _ ho), hex.1⟩ ?_)
  refine wpAny_pure ?_
  split
  · refine wpAny_bind (wpAny_rule ?_)
    generalize hH : s.heap.push { cls := .type "list", data := .seq ([] : List Value).toArray } = H at S1 hT ⊢
    have hHs : H.objs.size = s.heap.objs.size + 1 := by rw [← hH, Heap.size_push]
    have hS : (H.push { cls := .type "set_iterator", data := .fields #[.int 0 0, .int 0 0, .ref a, .int ps.length 0, .int ep 0] }).get? s.heap.objs.size = some { cls := .type "list", data := .seq ([] : List Value).toArray } := Heap.get?_push_of_some _ (hH ▸ Heap.get?_push_size _ rfl)
    unfold Builtin.List.listTouch
    refine wpAny_bind (wpAny_bind (listUpdate_at hS rfl ?_ (by size_fits) (by size_fits)))
    have hS1 := get?_update_seq (n := 0) hS (·.push .none)
    refine listUpdate_at hS1 rfl ?_ (by simp; exact Nat.le_trans (by decide : 1 ≤ 2) (by decide)) (by simp)
    have hS2 := get?_update_seq hS1 (·.pop)
    have sb : Heap.SameBut s.heap.objs.size (H.push { cls := .type "set_iterator", data := .fields #[.int 0 0, .int 0 0, .ref a, .int ps.length 0, .int ep 0] }) (((H.push { cls := .type "set_iterator", data := .fields #[.int 0 0, .int 0 0, .ref a, .int ps.length 0, .int ep 0] }).update s.heap.objs.size (Obj.mapSeq (·.push .none))).update s.heap.objs.size (Obj.mapSeq (·.pop))) := (Heap.SameBut.update ..).trans (Heap.SameBut.update ..)
    generalize ((H.push { cls := .type "set_iterator", data := .fields #[.int 0 0, .int 0 0, .ref a, .int ps.length 0, .int ep 0] }).update s.heap.objs.size (Obj.mapSeq (·.push .none))).update s.heap.objs.size (Obj.mapSeq (·.pop)) = H2 at *
    have hIS : H.objs.size ≠ s.heap.objs.size := by rw [hHs]; exact Nat.ne_of_gt (Nat.lt_succ_self _)
    have haS : a ≠ s.heap.objs.size := Nat.ne_of_lt ha
    have haI : a ≠ H.objs.size := by rw [hHs]; exact Nat.ne_of_lt (Nat.lt_succ_of_lt ha)
    have hSf : s.heap.objs.size ∉ [H.objs.size, a] := fun hm => by
      rcases List.mem_cons.mp hm with z | z
      · exact hIS z.symm
      · exact haS (List.mem_singleton.mp z).symm
    have hst : SetIt H2 H.objs.size a (slotAt w ps 0) 0 ps.length ep ∧ SmAt w H2 a ps es ep := by
      refine ⟨⟨_, sb.extBut _ _ hIS (Heap.get?_push_size _ rfl), rfl, ?_⟩, S1.keep fun o e => sb.extBut _ _ haS (Heap.get?_push_of_some _ e)⟩
      have : slotAt w ps 0 = 0 := by unfold slotAt; split <;> rfl
      rw [this]
      rfl
    refine wpAny_pure ⟨plainId_quiet PySem.F.plain_extend_loop _, codeAny_extend_loopS (walks_small (prog := prog) (w := w) (A := A.in1) hh H.objs.size a haI ps es ep).toS hn _ hSf _ ps.length 0 _ _ _ rfl (Nat.zero_le _) hst hS2 (ItemsOf.nil _) fun s' acc' c' hm hS' hacc => ?_⟩
    show wpAny _ A (load s.heap.objs.size >>= _) _ _ s'
    refine wpAny_bind (wpAny_load hS' ?_)
    refine wpAny_pure (hQ s' acc' (fun b ob e => hm.heap b ob (fun hb => ?_) (sb.extBut _ _ (Nat.ne_of_lt (Heap.lt_size e)) (Heap.get?_push_of_some _ (hH ▸ Heap.get?_push_of_some _ e)))) (Nat.le_of_lt (Heap.lt_size hS')) hm.gens hm.drawn hm.os hacc)
    have hlt := Heap.lt_size e
    rcases List.mem_cons.mp hb with h | h
    · exact absurd hlt (h ▸ Nat.lt_irrefl _)
    · rw [List.mem_singleton.mp h, hHs] at hlt; exact absurd hlt (Nat.not_lt.mpr (Nat.le_succ _))
  · rename_i hz
    exact absurd (by decide +kernel) hz

/-- two rising lists with the same members are one -/
theorem rise_eq : ∀ {a b : List Int}, a.Perm b → a.Pairwise (· ≤ ·) → b.Pairwise (· ≤ ·) → a = b
  | [], b, p, _, _ => (List.nil_perm.mp p).symm
  | x :: a, b, p, ha, hb => by
    cases b with
    | nil => exact absurd p.length_eq (by simp)
    | cons y b =>
      have hx : ∀ {z}, z ∈ a → x ≤ z := fun h => List.rel_of_pairwise_cons ha h
      have hy : ∀ {z}, z ∈ b → y ≤ z := fun h => List.rel_of_pairwise_cons hb h
      have e : x = y := by
        have m1 : x ∈ y :: b := p.subset List.mem_cons_self
        have m2 : y ∈ x :: a := p.symm.subset List.mem_cons_self
        rcases List.mem_cons.mp m1 with z | z
        · exact z
        · rcases List.mem_cons.mp m2 with z2 | z2
          · exact z2.symm
          · exact Int.le_antisymm (hx z2) (hy z)
      subst e
      rw [rise_eq (List.Perm.cons_inv p) (List.Pairwise.of_cons ha) (List.Pairwise.of_cons hb)]
theorem ents_ints {ps : List Nat} {es : List (Int × Value)} (h : EntP ps es) : IntsAre (es.map (·.2)) (ps.map fun (k : Nat) => (k : Int)) := by
  induction h with
  | nil => exact .nil
  | cons _ ih => exact .cons _ _ ih
theorem items_list {f : Nat → Option (Int × Value)} {l : List (Int × Value)} {acc : Array Value} (h : ItemsOf (fun i v => ∃ x, l[i]? = some x ∧ v = x.2) acc l.length) : acc.toList = l.map (·.2) := by
  refine List.ext_getElem (by rw [Array.length_toList, h.1, List.length_map]) fun i h1 h2 => ?_
  obtain ⟨x, e1, e2⟩ := h.2 i (acc.toList[i]) (by rw [← Array.getElem?_toList]; exact List.getElem?_eq_getElem h1)
  rw [e2, List.getElem_map]
  obtain ⟨_, e3⟩ := List.getElem?_eq_some_iff.mp e1
  rw [e3]
theorem perm_ints {us vs : List Value} {ns : List Int} (p : us.Perm vs) (h : IntsAre vs ns) : ∃ ms, IntsAre us ms ∧ ms.Perm ns := by
  induction p generalizing ns with
  | nil => exact ⟨ns, h, .refl _⟩
  | cons x _ ih =>
    cases h with
    | cons n t r =>
      obtain ⟨ms, a, b⟩ := ih r
      exact ⟨n :: ms, .cons n t a, b.cons n⟩
  | swap x y l =>
    cases h with
    | cons n t r =>
      cases r with
      | cons m u r => exact ⟨m :: n :: _, .cons m u (.cons n t r), .swap ..⟩
  | trans _ _ ih1 ih2 =>
    obtain ⟨ms, a, b⟩ := ih2 h
    obtain ⟨ks, c, d⟩ := ih1 a
    exact ⟨ks, c, d.trans b⟩
set_option maxHeartbeats 2000000 in
/-- sorted(S), S a small set: its members, rising, a new list -/
theorem sorted_small {a : Addr} {ps : List Nat} {es : Array (Int × Value)} {ep : Nat} {Q : Value → Shared → Prop} (hh : A.handled = none) (S : SmAt w s.heap a ps es ep)
    (h : ∀ (s' : Shared) (D : Addr) (out : Array Value) (c : Nat), (∀ b o, s.heap.get? b = some o → s'.heap.get? b = some o) → s'.gens = s.gens → s'.drawn = s.drawn → s'.os = s.os → s.heap.objs.size ≤ D → s'.heap.get? D = some (seqObj "list" out c) →
      IntsAre out.toList (ps.map fun (k : Nat) => (k : Int)) → Q (.ref D) s') : wpAny (model prog w) A (call (.builtin "sorted") [.ref a]) Q E s := by
  refine Calls.call_function_entry kind_sorted plain_sorted entry_sorted (args_sorted1 _) ?_
  unfold Builtin.«sorted»
  refine wpAny_bind (m := checkCount "sorted" 1 1 _) (wpAny_pure ?_)
  refine wpAny_bind (collect_small hh S fun s1 acc keep hsz hg hdr hos hacc => ?_)
  have hord := (ord_perm w a ep es).length_eq
  rw [Array.length_toList, Array.length_toList, S.size] at hord
  have eacc : acc.toList = (ordOf w a ep es).toList.map (·.2) := by
    refine items_list (f := fun _ => none) ?_
    have : (fun (i : Nat) (v : Value) => ∃ x : Int × Value, (ordOf w a ep es)[i]? = some x ∧ v = x.2) = fun (i : Nat) (v : Value) => ∃ x : Int × Value, (ordOf w a ep es).toList[i]? = some x ∧ v = x.2 := by
      funext i v
      rw [Array.getElem?_toList]
    rw [this] at hacc
    rw [Array.length_toList, hord]
    exact hacc
  obtain ⟨ms, hI, hp⟩ := perm_ints ((ord_perm w a ep es).map (·.2)) (ents_ints S.ent)
  rw [← eacc] at hI
  have hz : acc.toList.length ≤ 2 := by rw [hI.length, hp.length_eq, List.length_map]; exact S.two
  refine wpAny_bind (wpAny_newList ?_ (Nat.le_trans hz (by decide)))
  have hoL : (s1.heap.push (seqObj "list" acc.toList.toArray 0)).get? s1.heap.objs.size = some (seqObj "list" acc.toList.toArray 0) := Heap.get?_push_size _ rfl
  show wpAny _ _ _ _ _ { s1 with heap := s1.heap.push (seqObj "list" acc.toList.toArray 0) }
  refine wpAny_bind (wpAny_holding (wpAny_call_entry slot_list_sort ⟨_, hoL, rfl⟩ entry_list_sort (list_sort_tree hoL hI (by omega) fun out ns' a1 a2 a3 => ⟨_, rfl, ?_⟩) (args_list_sort _)))
  have ens : ns' = ps.map fun (k : Nat) => (k : Int) := rise_eq (a2.trans hp) a3 (by
    rw [List.pairwise_map]
    exact S.rise.imp fun h => by omega)
  have hlt : s1.heap.objs.size < (s1.heap.push (seqObj "list" acc.toList.toArray 0)).objs.size := Heap.lt_size hoL
  obtain ⟨c, hc⟩ := sortedHeap_at (out := out) hoL
  refine wpAny_pure ⟨_, rfl, h _ _ out c (fun b o e => ?_) hg hdr hos hsz hc (by rw [← ens]; exact a1)⟩
  have hb := Heap.lt_size (keep b o e)
  show (sortedHeap _ _ _ _).get? b = some o
  rw [sortedHeap_old (Nat.ne_of_lt hb) (Nat.lt_trans hb hlt)]
  exact Heap.get?_push_of_some _ (keep b o e)
end
end L2

set_option Elab.async false
set_option linter.all false
set_option maxRecDepth 100000
/-! small sets, f-strings, any, methods found by the instance's class -/
namespace L2
open PySem PySem.Spec PyProof.Rows
def natV (ns : List Nat) : List V := ns.map fun (k : Nat) => V.int (k : Int)
/-- a set of at most two small ints -/
def SetO (w : World) (a : Addr) (ps : List Nat) : HO := .ext fun h => SetSm h a ps (ledOf w)
theorem natV_ints {ns : List Nat} : natV ns = (ns.map fun (k : Nat) => (k : Int)).map V.int := by unfold natV; rw [List.map_map]; rfl
theorem foldN_facts {ns : List Nat} (h2 : ns.length ≤ 2) : (foldN ns).length ≤ 2 ∧ (foldN ns).Pairwise (· < ·) ∧ ∀ k, k ∈ foldN ns ↔ k ∈ ns := by
  match ns, h2 with
  | [], _ => exact ⟨by simp [foldN], by simp [foldN], fun k => by simp [foldN]⟩
  | [a], _ => exact ⟨by simp [foldN, insN], by simp [foldN, insN], fun k => by simp [foldN, insN]⟩
  | [a, b], _ =>
    have e : foldN [a, b] = if b = a then [a] else if b < a then [b, a] else [a, b] := rfl
    rw [e]
    split
    · rename_i h
      subst h
      exact ⟨by simp, by simp, fun k => by simp⟩
    · rename_i h
      split
      · rename_i h2
        exact ⟨by simp, by simpa using h2, fun k => by simp [or_comm]⟩
      · rename_i h2
        exact ⟨by simp, by simp; omega, fun k => by simp⟩
section
variable {X : Cx}
theorem call_set2 (hc : X.calm = true) : CallR X (.type "set") (fun xs H Q => ∃ (l : Addr) (ns : List Nat), xs = [.ref l] ∧ SqL X.K H l (natV ns) ∧ ns.length ≤ 2 ∧ (∀ k ∈ ns, k < 8) ∧ ∀ a, H a = none → Q (.ref a) (upd H a (SetO X.w a (foldN ns)))) := by
  intro pins s σ H xs us Q I r h
  obtain ⟨l, ns, rfl, hS, h2, h8, q⟩ := h
  obtain ⟨u, rfl, rx⟩ := vals1 r
  cases rx
  obtain ⟨its, rv, pl, hz⟩ := I.list hS
  rw [natV_ints] at rv
  refine call_set_small (ns := ns) (I.ok.hd hc) pl.isList (by simpa using ints_of_vals rv) h2 h8 fun h' tk S keep => ?_
  have hk : ∀ b o, s.heap.get? b = some o → h'.get? b = some o := fun b o e => keep b o (Heap.lt_size e) e
  refine ⟨.ref s.heap.objs.size, _, I.laid (t' := tk) (a := s.heap.objs.size) (o := SetO X.w s.heap.objs.size (foldN ns)) hk (Nat.le_refl _) ?_, rfl, q _ (I.hok.fresh (Nat.le_refl _))⟩
  obtain ⟨o, es, ep, ho, hr⟩ := id S
  exact ⟨S, ⟨o, ho⟩, fun h1 h2 S1 k => S1.keep k⟩
theorem call_sortset (hc : X.calm = true) : CallR X (.builtin "sorted") (fun xs H Q => ∃ (a : Addr) (ps : List Nat), xs = [.ref a] ∧ H a = some (SetO X.w a ps) ∧ ps.length ≤ 2 ∧ ps.Pairwise (· < ·) ∧ ∀ p, H p = none → Q (.ref p) (upd H p (.lst (natV ps)))) := by
  intro pins s σ H xs us Q I r h
  obtain ⟨a, ps, rfl, hS, h2, hr, q⟩ := h
  obtain ⟨u, rfl, rx⟩ := vals1 r
  cases rx
  obtain ⟨S, _, _⟩ := (show ObjOk X.prog X.w H s.heap a (SetO X.w a ps) from I.hok a _ hS)
  obtain ⟨o, es, ep, ho, hex, hd, hE⟩ := S
  refine sorted_small (I.ok.hd hc) (⟨⟨o, ho, hex, hd⟩, hE, h2, hr⟩ : SmAt X.w s.heap a ps es ep) fun s' D out c keep hg hdr hos hD hout hI => ?_
  obtain ⟨h', g', d', tk', os'⟩ := s'
  have eg : g' = s.gens := hg
  have ed : d' = s.drawn := hdr
  have eo : os' = s.os := hos
  subst eg ed eo
  refine ⟨.ref D, _, I.laid (t' := tk') (a := D) (o := .lst (natV ps)) keep hD ?_, rfl, q _ (I.hok.fresh hD)⟩
  have v := vals_of_ints hI
  rw [← natV_ints] at v
  refine ⟨?_, out.toList, c, v, ?_⟩
  · unfold natV
    rw [List.length_map]
    exact Nat.le_trans h2 (by decide)
  · have := hout
    simpa [seqObj] using this
/-- f'..{e}', e an int -/
theorem emp_app (a : Str) : Str.empty ++ a = a := by
  show (⟨(#[] : Array Nat) ++ a.cps⟩ : Str) = a
  simp
theorem pe_fstr1 {a : Str} {e : Expr} {te : TE} {j : Nat} {p1 p2 p3 : Pos} (he : PE X e te) (ha : a.length ≤ sizeLine := by decide +kernel) : PE X (.JoinedStr [.Constant (.str a) j p1, .FormattedValue e (-1) none p2] p3)
    (fun σ H Q => te σ H fun x H1 => ∃ i : Int, x = .int i ∧ i.natAbs.log2 < 1920 ∧ (a ++ (toString i : Str)).length ≤ sizeLine ∧ Q (.str (a ++ (toString i : Str))) H1) := by
  intro pins s σ H Q I h
  refine JoinedStr_many (joinParts_cons (Calls.Constant_str ?_))
  dsimp only
  rw [emp_app]
  refine ⟨ha, joinParts_cons (FormattedValue_plain (thn (he pins _ σ H _ (I.tok _) h) fun u s1 ⟨x, H1, I1, r1, i, ex, hi, hz, q⟩ => ?_))⟩
  subst ex
  obtain ⟨t, rfl⟩ := r1
  refine formatField_int_small hi ?_
  exact ⟨hz, joinParts_nil ⟨.str _, H1, I1.tok _, ⟨_, rfl⟩, q⟩ hz⟩
/-! ### o.m(..), m found by the class of o -/
def tMethD (X : Cx) (m : Str) (ta : TE) (t : TA) : TE := fun σ H Q => ta σ H fun x H1 => ∃ (a dx C f : Addr) (fs : List (Str × V)) (fd : FuncData) (k : Nat) (ps : List Str) (sp : Sp), x = .ref a ∧ H1 a = some (.ins C dx fs) ∧ fs.lookup m = none ∧
  Cls X.K C ∧ Meth X.K C m f ∧ FnOk X.prog X.w X.K X.mg X.base CX0 k f fd ps sp ∧ Room k X.A ∧ Binds X.K fd ps [] ∧ t σ H1 fun vs H2 => sp (.ref a :: vs) H2 Q E0
theorem pe_methD {pl : Sem Bool} {o e : Expr} {es : List Expr} {m : Str} {ta : TE} {t : TA} {pos apos : Pos} (he : PE X o ta) (ha : PA X (e :: es) t)
    (hst : starEach (e :: es) X.env = (false, eval e X.env) :: starEach es X.env := by rfl) (hpl : (backTo pos (starEach es X.env)).any (·.1) = false := by rfl)
    (ht : eval (.Call (.Attribute o m apos) (e :: es) [] pos) X.env = (do
      let ov ← eval o X.env
      standAt apos.atName
      let (f, first) ← holding [ov] (getMethod ov m pl)
      callWith pos f first (backTo pos (starEach (e :: es) X.env)) (backToKw pos (keywordEach [] X.env))) := by rfl) :
    PE X (.Call (.Attribute o m apos) (e :: es) [] pos) (tMethD X m ta t) := by
  intro pins s σ H Q I h
  refine PySem.W.methodCall_KW (pl := pl) (thn (he pins s σ H _ I h) fun u s1 ⟨x, H1, I1, rx, a, dx, C, f, fs, fd, k, ps, sp, ex, ea, l, c, hm, F, hr, hb, q⟩ => ?_) ht
  subst ex
  obtain rfl : u = Value.ref a := rx
  refine getmeth_ok I1 ea c hm l ?_
  refine PySem.W.callWith_K (first := [.ref a]) (h₀ := X.base) I.ok.mod.kin hm.kp (thn (ha pos pins s1 σ H1 _ I1 q) fun us s2 ⟨vs, H2, I2, r, q2⟩ => ⟨I2.kIn, ?_⟩) hst hpl
  exact run_fn (us := .ref a :: us) (vs := .ref a :: vs) (dvs := []) (ds := []) F hr hb .nil pass0 I2 (.cons rfl r) (by rw [List.append_nil]; exact q2)
def tMethD0 (X : Cx) (m : Str) (ta : TE) : TE := fun σ H Q => ta σ H fun x H1 => ∃ (a dx C f : Addr) (fs : List (Str × V)) (fd : FuncData) (k : Nat) (ps : List Str) (sp : Sp), x = .ref a ∧ H1 a = some (.ins C dx fs) ∧ fs.lookup m = none ∧
  Cls X.K C ∧ Meth X.K C m f ∧ FnOk X.prog X.w X.K X.mg X.base CX0 k f fd ps sp ∧ Room k X.A ∧ Binds X.K fd ps [] ∧ sp [.ref a] H1 Q E0
theorem pe_methD0 {pl : Sem Bool} {o : Expr} {m : Str} {ta : TE} {pos apos : Pos} (he : PE X o ta)
    (ht : eval (.Call (.Attribute o m apos) [] [] pos) X.env = (do
      let ov ← eval o X.env
      standAt apos.atName
      let (f, first) ← holding [ov] (getMethod ov m pl)
      callWith pos f first (backTo pos (starEach [] X.env)) (backToKw pos (keywordEach [] X.env))) := by rfl) :
    PE X (.Call (.Attribute o m apos) [] [] pos) (tMethD0 X m ta) := by
  intro pins s σ H Q I h
  refine PySem.W.methodCall_KW (pl := pl) (thn (he pins s σ H _ I h) fun u s1 ⟨x, H1, I1, rx, a, dx, C, f, fs, fd, k, ps, sp, ex, ea, l, c, hm, F, hr, hb, q⟩ => ?_) ht
  subst ex
  obtain rfl : u = Value.ref a := rx
  refine getmeth_ok I1 ea c hm l ?_
  exact PySem.W.callWith_K0 (first := [.ref a]) I1.kIn hm.kp (run_fn (us := [.ref a]) (vs := [.ref a]) (dvs := []) (ds := []) F hr hb .nil pass0 I1 (.cons rfl .nil) q)
end
end L2

set_option Elab.async false
set_option linter.all false
set_option maxRecDepth 100000
/-! enumerate of a list -/
namespace L2
open PySem PySem.Spec PyProof.Rows
section
variable {X : Cx}
end
end L2

set_option Elab.async false
set_option linter.all false
set_option maxRecDepth 100000
namespace L2
open PySem PySem.Spec PyProof.Rows
/-! ### small sets of texts -/
theorem orStandIn_flags (t : SetTable) (n : Nat) : (t.orStandIn n).led = t.led ∧ (t.plain = false → (t.orStandIn n).plain = false) := by
  unfold SetTable.orStandIn
  by_cases h : t.fits n = true
  · rw [if_pos h]
    exact ⟨rfl, id⟩
  · rw [if_neg h]
    exact ⟨rfl, fun _ => rfl⟩
theorem layNew_flags (t : SetTable) (es : Array (Int × Value)) (h : Int) (x : Value) : (layNew t es h x).2.1.led = t.led ∧ (t.plain = false → (layNew t es h x).2.1.plain = false) := by
  unfold layNew
  split
  · exact ⟨(orStandIn_flags _ _).1.trans rfl, fun z => (orStandIn_flags _ _).2 z⟩
  · exact ⟨rfl, fun _ => rfl⟩
theorem relay_flags (t : SetTable) (es : Array (Int × Value)) (n : Nat) : (relayAll t es n).2.1.led = t.led ∧ (t.plain = false → (relayAll t es n).2.1.plain = false) := by
  unfold relayAll
  split
  · rename_i t' order he
    have : t'.led = t.led ∧ t'.plain = t.plain := by
      unfold SetTable.relaid SetTable.laid at he
      cases hc : SetTable.layClean (SetTable.sizeAbove n - 1) (es.map (·.1)) with
      | none => rw [hc] at he; cases he
      | some o =>
        rw [hc] at he
        have := Option.some.inj he
        have e := (Prod.ext_iff.mp this).1
        dsimp only at e
        rw [← e]
        exact ⟨rfl, rfl⟩
    dsimp only
    split
    · exact ⟨this.1, fun z => this.2.trans z⟩
    · exact ⟨rfl, fun _ => rfl⟩
  · exact ⟨rfl, fun _ => rfl⟩
def keyT (e : Int × Value) : Str := match e.2 with
  | .str s _ => s
  | _ => ""
def TxE (prog : Program) (w : World) (es : List (Int × Value)) (ss : List Str) : Prop := ElemsOf (PySem.strKind prog w) es ∧ (es.map keyT).Perm ss ∧ ss.Nodup
def SetTx (prog : Program) (w : World) (h : Heap) (a : Addr) (ss : List Str) : Prop := ∃ o es ep t, h.get? a = some o ∧ o.ExactSet ∧ o.data = .set es ep t ∧ t.fits es.size = true ∧ t.led = ledOf w ∧ (es.size ≠ 0 → t.plain = false) ∧ TxE prog w es.toList ss
def insT (x : Str) (ss : List Str) : List Str := if x ∈ ss then ss else ss ++ [x]
theorem TxE.is {prog : Program} {w : World} {es : List (Int × Value)} {ss : List Str} (h : TxE prog w es ss) {e : Int × Value} (he : e ∈ es) : ∃ t, e.2 = .str (keyT e) t := by
  obtain ⟨⟨k, hk, _⟩, _⟩ := h.1 e he
  obtain ⟨t, z⟩ := Value.isStrOf_shape hk
  refine ⟨t, ?_⟩
  unfold keyT
  rw [z]
theorem TxE.find {prog : Program} {w : World} {es : List (Int × Value)} {ss : List Str} (h : TxE prog w es ss) (x : Str) : (∃ e ∈ es, (PySem.strKind prog w).is x e.2 = true) ↔ x ∈ ss := by
  rw [← h.2.1.mem_iff, List.mem_map]
  constructor
  · rintro ⟨e, he, hx⟩
    refine ⟨e, he, ?_⟩
    obtain ⟨t, z⟩ := Value.isStrOf_shape hx
    unfold keyT
    rw [z]
  · rintro ⟨e, he, rfl⟩
    obtain ⟨t, z⟩ := h.is he
    refine ⟨e, he, ?_⟩
    rw [z]
    exact PySem.strKind_is _ _ _ _
section
variable {prog : Program} {w : World} {A : Around} {E : Value → Shared → Prop} {s : Shared}
theorem txs_store {h : Heap} {a : Addr} {o : Obj} {es : Array (Int × Value)} {ep : Nat} {t : SetTable} (ho : h.get? a = some o) (hex : o.ExactSet) (hd : o.data = .set es ep t)
    {es' : Array (Int × Value)} {t' : SetTable} {ss' : List Str} (hE : TxE prog w es'.toList ss') (hf : t'.fits es'.size = true) (hl : t'.led = ledOf w) (hp : t'.plain = false) :
    (h.update a (Obj.putSet es' t')).get? a = some { o with data := .set es' (ep + 1) t' } ∧ SetTx prog w (h.update a (Obj.putSet es' t')) a ss' := by
  have hg : (h.update a (Obj.putSet es' t')).get? a = some { o with data := .set es' (ep + 1) t' } := by
    have := Heap.get?_update_self (Obj.putSet es' t') ho (by rw [putSet_of es' t' hd]; rfl)
    rw [putSet_of es' t' hd] at this; exact this
  exact ⟨hg, _, es', ep + 1, t', hg, hex, rfl, hf, hl, fun _ => hp, hE⟩
theorem tail_tx {g : Bool → Sem Unit} (hg : ∀ (b : Bool) (s₁ : Shared) (Q' : Unit → Shared → Prop), Q' () s₁ → wpAny (model prog w) A (g b) Q' E s₁)
    {a : Addr} {o : Obj} {es : Array (Int × Value)} {ep : Nat} {t : SetTable} (ho : s.heap.get? a = some o) (hex : o.ExactSet) (hd : o.data = .set es ep t)
    {es1 : Array (Int × Value)} {t2 : SetTable} {ss' : List Str} (hE : TxE prog w es1.toList ss')
    (hb1 : es1.size < scanBound) (hf2 : t2.fits es1.size = true) (hl2 : t2.led = ledOf w) (hp2 : t2.plain = false) {wasDummy : Bool} {R : Option Bool → Shared → Prop}
    (h : ∀ h', Heap.SameBut a s.heap h' → SetTx prog w h' a ss' → R (some true) { s with heap := h' }) :
    wpAny (model prog w) A (do
        storeSet a es1 t2
        if (!wasDummy && t2.tooFull) = true then do
            g (relayAll t2 es1 (SetTable.grown es1.size)).2.2
            storeSet a (relayAll t2 es1 (SetTable.grown es1.size)).1 (relayAll t2 es1 (SetTable.grown es1.size)).2.1
            pure (some true)
          else pure (some true)) R E s := by
  refine wpAny_bind (wpAny_storeSet_of ho hd ?_ (fits_of_scanBound hb1))
  obtain ⟨ho1, hS1⟩ := txs_store (prog := prog) ho hex hd hE hf2 hl2 hp2
  have hsb1 := Heap.SameBut.update s.heap a (Obj.putSet es1 t2)
  split
  · have hp := relayAll_perm t2 es1 (SetTable.grown es1.size)
    have hfr := relayAll_fits t2 es1 (SetTable.grown es1.size)
    obtain ⟨hfl1, hfl2⟩ := relay_flags t2 es1 (SetTable.grown es1.size)
    generalize hRl : relayAll t2 es1 (SetTable.grown es1.size) = Rl at hp hfr hfl1 hfl2 ⊢
    obtain ⟨es2, t3, gave2⟩ := Rl
    dsimp only at hp hfr hfl1 hfl2 ⊢
    have hE2 : TxE prog w es2.toList ss' := ⟨hE.1.perm hp, (hp.map _).trans hE.2.1, hE.2.2⟩
    have hsz : es2.size = es1.size := by rw [← Array.length_toList, hp.length_eq, Array.length_toList]
    have hb2 : es2.size < scanBound := by rw [hsz]; exact hb1
    refine wpAny_bind (hg _ _ _ ?_)
    refine wpAny_bind (wpAny_storeSet_of ho1 rfl ?_ (fits_of_scanBound hb2))
    obtain ⟨_, hS2⟩ := txs_store (prog := prog) ho1 hex rfl hE2 hfr (hfl1.trans hl2) (hfl2 hp2)
    exact wpAny_pure (h _ (hsb1.trans (Heap.SameBut.update _ a _)) hS2)
  · exact wpAny_pure (h _ hsb1 hS1)
theorem add_tx {a : Addr} {ss : List Str} {x : Str} {tk : Tok} {Q : Bool → Shared → Prop} (hS : SetTx prog w s.heap a ss) (hroom : ss.length + 1 < scanBound)
    (h : ∀ b h', Heap.SameBut a s.heap h' → SetTx prog w h' a (insT x ss) → Q b { s with heap := h' }) :
    wpAny (model prog w) A (setAddHashed a (.str x tk) ((PySem.strKind prog w).hash x)) Q E s := by
  obtain ⟨o, es, ep, t, ho, hex, hd, hf, hl, hp, hE⟩ := hS
  have hn : es.size = ss.length := by rw [← hE.2.1.length_eq, List.length_map, Array.length_toList]
  have hb : es.size < scanBound := by omega
  have hkey : (PySem.strKind prog w).is x (.str x tk) = true := PySem.strKind_is _ _ _ _
  have hsc : Value.scannable (.str x tk) = true := rfl
  have hel := hE.1
  unfold setAddHashed setAddHashedIn
  refine wpAny_holding (wpAny_bind (wpAny_setState_of ho hd hf ?_))
  dsimp only
  rw [byScan_of hsc hb hel]
  simp only [↓reduceIte]
  unfold setAddByScan
  refine wpAny_bind ?_
  refine wpAny_bind (wpAny_rule ?_)
  refine wpAny_bind (wpAny_setScan_of hkey ho hd hf hel ?_)
  cases hr : List.findIdx? (fun e => (PySem.strKind prog w).is x e.2) es.toList with
  | some j =>
    dsimp only
    obtain ⟨hj, hpj, _⟩ := List.findIdx?_eq_some_iff_getElem.mp hr
    have hm : x ∈ ss := (hE.find x).mp ⟨es.toList[j], List.getElem_mem hj, hpj⟩
    refine wpAny_pure (wpAny_pure ?_)
    have e : s = { s with heap := s.heap } := by cases s; rfl
    rw [e]
    refine h _ s.heap (Heap.SameBut.refl a s.heap) ⟨o, es, ep, t, ho, hex, hd, hf, hl, hp, ?_⟩
    unfold insT
    rw [if_pos hm]
    exact hE
  | none =>
    dsimp only
    have hm : x ∉ ss := fun z => by
      obtain ⟨e, he, hp⟩ := (hE.find x).mpr z
      have := List.findIdx?_eq_none_iff.mp hr e he
      rw [hp] at this
      exact Bool.noConfusion this
    have hgw : ∀ (b : Bool) {s₁ : Shared} {Q' : Unit → Shared → Prop}, Q' () s₁ → wpAny (model prog w) A (match b with | true => rule "set.scan.the-table-gave-way" | false => pure ()) Q' E s₁ :=
      fun b s₁ Q' hq => by cases b <;> first | exact wpAny_pure hq | exact wpAny_rule hq
    have hperm := layNew_perm t es ((PySem.strKind prog w).hash x) (.str x tk)
    have hfits := layNew_fits t es ((PySem.strKind prog w).hash x) (.str x tk)
    obtain ⟨hfl1, hfl2⟩ := layNew_flags t es ((PySem.strKind prog w).hash x) (.str x tk)
    generalize hL : layNew t es ((PySem.strKind prog w).hash x) (.str x tk) = L at hperm hfits hfl1 hfl2 ⊢
    obtain ⟨es1, t1, wasDummy, gave⟩ := L
    dsimp only at hperm hfits hfl1 hfl2 ⊢
    rw [Array.toList_push] at hperm
    have hE1 : TxE prog w es1.toList (insT x ss) := by
      refine ⟨(hel.push hkey hsc).perm hperm, ?_, ?_⟩
      · refine (hperm.map keyT).trans ?_
        rw [List.map_append]
        unfold insT
        rw [if_neg hm]
        exact hE.2.1.append_right _
      · unfold insT
        rw [if_neg hm]
        refine List.nodup_append.mpr ⟨hE.2.2, by simp, ?_⟩
        intro y hy z hz e
        rw [List.mem_singleton.mp hz] at e
        exact hm (e ▸ hy)
    have hb1' : es1.size < scanBound := by rw [← Array.length_toList, hperm.length_eq, List.length_append, Array.length_toList, hn]; simpa using hroom
    refine wpAny_bind (hgw _ ?_)
    have hend : ∀ h', Heap.SameBut a s.heap h' → SetTx prog w h' a (insT x ss) → Q true { s with heap := h' } := fun h' hsb hS' => h _ h' hsb hS'
    split
    · refine wpAny_bind ?_
      rw [hashByValue_scannable 8 hsc]
      refine wpAny_pure ?_
      refine tail_tx ?_ ho hex hd hE1 hb1' ?_ ?_ ?_ ?_
      · intro b s₁ Q' hq; cases b <;> first | exact wpAny_pure hq | exact wpAny_rule hq
      · split
        · exact hfits
        · exact SetTable.fits_plain_off hfits
      · split
        · exact hfl1.trans hl
        · exact hfl1.trans hl
      · rfl
      · intro h' hsb hS'; dsimp only; exact wpAny_pure (hend h' hsb hS')
    · rename_i hpl
      refine wpAny_bind (wpAny_pure ?_)
      simp only [↓reduceIte]
      refine tail_tx ?_ ho hex hd hE1 hb1' hfits (hfl1.trans hl) (by simpa using hpl) ?_
      · intro b s₁ Q' hq; cases b <;> first | exact wpAny_pure hq | exact wpAny_rule hq
      · intro h' hsb hS'; dsimp only; exact wpAny_pure (hend h' hsb hS')
theorem SetTx.keep {h h' : Heap} {a : Addr} {ss : List Str} (S : SetTx prog w h a ss) (k : ∀ o, h.get? a = some o → h'.get? a = some o) : SetTx prog w h' a ss := by
  obtain ⟨o, es, ep, t, ho, r⟩ := S
  exact ⟨o, es, ep, t, k o ho, r⟩
end
end L2

set_option Elab.async false
set_option linter.all false
set_option maxRecDepth 100000
namespace L2
open PySem PySem.Spec PyProof.Rows
def foldT (ns : List Str) : List Str := ns.foldl (fun ps k => insT k ps) []
theorem foldT_snoc (ns : List Str) (k : Str) : foldT (ns ++ [k]) = insT k (foldT ns) := by simp [foldT]
theorem foldT_len (ns : List Str) : (foldT ns).length ≤ ns.length := by
  have h : ∀ (l acc : List Str), (l.foldl (fun ps k => insT k ps) acc).length ≤ acc.length + l.length := by
    intro l
    induction l with
    | nil => intro acc; simp
    | cons x l ih =>
      intro acc
      rw [List.foldl_cons]
      refine Nat.le_trans (ih _) ?_
      unfold insT
      split <;> simp <;> omega
  simpa [foldT] using h ns []
theorem tx_nil {prog : Program} {w : World} : TxE prog w [] [] := ⟨fun e he => absurd he (by simp), List.Perm.refl _, List.nodup_nil⟩
theorem strs_len {vs : List Value} {ss : List Str} (h : StrsAre vs ss) : vs.length = ss.length := by
  induction h with
  | nil => rfl
  | cons _ _ _ ih => rw [List.length_cons, List.length_cons, ih]
theorem strs_at {vs : List Value} {ss : List Str} (h : StrsAre vs ss) : ∀ (i : Nat) (v : Value), vs[i]? = some v → ∃ t k, ss[i]? = some k ∧ v = .str k t := by
  induction h with
  | nil => intro i v e; simp at e
  | cons y t _ ih =>
    intro i v e
    cases i with
    | zero => exact ⟨t, y, rfl, by simpa using e.symm⟩
    | succ i => exact ih i v (by simpa using e)
section
variable {prog : Program} {w : World} {A : Around} {R : Result → Shared → Prop} {I : Addr} {fp wr : List Addr} {G : Array GenState → Array GenState → Prop} {n : Nat} {P : Nat → Value → Prop} {St : Nat → Shared → Prop}
theorem update_tx (W : WalksS prog w A.in1 I fp wr G n P St) (S : Addr) (hSf : S ∉ fp) (ns : List Str) (hn : ns.length = n) (h2 : n + 1 < scanBound)
    (hval : ∀ i v, P i v → ∃ t k, ns[i]? = some k ∧ v = .str k t) :
    ∀ (k i : Nat) (s : Shared), n - i = k → i ≤ n → St i s → SetTx prog w s.heap S (foldT (ns.take i)) →
      (∀ s', Moved (S :: wr) G s s' → SetTx prog w s'.heap S (foldT ns) → R (.ok (.ret .none)) s') →
      codeAny (model prog w) A (.builtin "set.update.loop" ⟨[.ref S, .ref I], []⟩) R s := by
  have hSw : S ∉ wr := fun h => hSf (W.sub _ h)
  have hsub : ∀ b ∈ wr, b ∈ S :: wr := fun b hb => List.mem_cons_of_mem _ hb
  intro k
  induction k with
  | zero =>
    intro i s hk hi hst hS hR
    have hin : i = n := by omega
    subst hin
    refine codeAny_builtin F.entry_set_update_loop ?_
    rw [Around.under_plainId F.plain_set_update_loop _]
    show wpAny _ A.in1 (pyNext (.ref I) >>= _) _ _ s
    refine wpAny_bind (W.done s _ _ hst fun s' hm => ?_)
    show wpAny _ A.in1 (ret Value.none) _ _ s'
    refine wpAny_pure (hR s' (hm.mono hsub) ?_)
    rw [← hn, List.take_length] at hS
    exact hS.keep fun o ho => hm.heap S _ hSw ho
  | succ k ih =>
    intro i s hk hi hst hS hR
    have hlt : i < n := by omega
    refine codeAny_builtin F.entry_set_update_loop ?_
    rw [Around.under_plainId F.plain_set_update_loop _]
    show wpAny _ A.in1 (pyNext (.ref I) >>= _) _ _ s
    refine wpAny_bind (W.item i s _ _ hlt hst fun v s' hP hst' hm => ?_)
    obtain ⟨t, q, hq, rfl⟩ := hval i v hP
    have hS' := hS.keep fun o ho => hm.heap S _ hSw ho
    show wpAny _ A.in1 (holding [Value.str q t] (setAdd S (.str q t)) >>= _) _ _ s'
    refine wpAny_bind (wpAny_holding ?_)
    unfold setAdd
    refine wpAny_holding ?_
    refine wpAny_bind ((PySem.strKind prog w).pyHash (k := q) (PySem.strKind_is _ _ _ _) ?_)
    have f1 := foldT_len (ns.take i)
    rw [List.length_take] at f1
    refine add_tx (s := { s' with toks := s'.toks + 1 }) hS' (by omega) fun b h' hsb hS2 => ?_
    have et : ns.take (i + 1) = ns.take i ++ [q] := by
      rw [List.take_succ, hq]
      rfl
    refine wpAny_pure ⟨plainId_quiet F.plain_set_update_loop _, ih (i + 1) _ (by omega) hlt (W.frame _ s' _ _ hst' (Nat.le_succ _) fun b hb o e => ?_) (by rw [et, foldT_snoc]; exact hS2) fun s'' hm'' hS'' => ?_⟩
    · rw [hsb.2 b (fun h : b = S => hSf (by rw [← h]; exact hb))]; exact e
    · refine hR s'' (Moved.trans W.gtrans ((hm.mono hsub).then_heap (Nat.le_succ _) fun b o hb e => ?_) hm'') hS''
      rw [hsb.2 b (fun h : b = S => hb (by rw [h]; exact List.mem_cons_self))]; exact e
end
section
variable {prog : Program} {w : World} {A : Around} {E : Value → Shared → Prop} {s : Shared}
set_option maxHeartbeats 3200000 in
/-- set(l), l a list of texts -/
theorem call_set_tx {l : Addr} {items : Array Value} {ns : List Str} {Q : Value → Shared → Prop}
    (hh : A.handled = none) (hl : s.heap.IsList l items) (hi : StrsAre items.toList ns) (h2 : ns.length + 1 < scanBound)
    (h : ∀ (h' : Heap) (tk : Nat), SetTx prog w h' s.heap.objs.size (foldT ns) → (∀ b o, b < s.heap.objs.size → s.heap.get? b = some o → h'.get? b = some o) → Q (.ref s.heap.objs.size) { s with heap := h', toks := tk }) :
    wpAny (model prog w) A (call (.type "set") [.ref l]) Q E s := by
  have hlen : ns.length = items.size := by
    have := strs_len hi
    rw [Array.length_toList] at this
    omega
  obtain ⟨c, tl, hmro⟩ := PySem.F.called_set.mro
  have hmade := PySem.F.called_set.made
  have hsub := PySem.F.called_set.sub
  refine wpAny_call (codeAny_of_tree ?_)
  show wpAny _ _ (callAny (.type "set") _) _ _ _
  refine wpAny_pure ⟨Code.quiet_builtin _ (by decide +kernel), codeAny_builtin PySem.F.entry_type_call ?_⟩
  rw [Around.under_plain (weight_type_call_type "set" [.ref l] []) rfl]
  have h1 := PySem.F.called_set.notType
  have h2' := PySem.F.called_set.canCreate
  have hct := PySem.F.typeCall_set_1 (.ref l)
  repeat (any_goals (first | assumption | wp_step))
  refine codeAny_mono (set_new_led (.ref l) (E := E) (Q₁ := fun obj s₁ => obj = .ref s.heap.objs.size ∧ s₁ = { s with heap := s.heap.push { cls := .type "set", dict := none, data := .set #[] 0 (.fresh 0 0 (ledOf w)) } }) ⟨rfl, rfl⟩) fun r s₁ hr => ?_
  cases r with
  | error e => exact hr
  | ok fl =>
    cases fl with
    | ret obj =>
      obtain ⟨rfl, rfl⟩ := hr
      have hS : (s.heap.push { cls := .type "set", dict := none, data := .set #[] 0 (.fresh 0 0 (ledOf w)) }).get? s.heap.objs.size = some { cls := .type "set", dict := none, data := .set #[] 0 (.fresh 0 0 (ledOf w)) } := Heap.get?_push_size _ rfl
      have hT : Shared.TypeIs { s with heap := s.heap.push { cls := .type "set", dict := none, data := .set #[] 0 (.fresh 0 0 (ledOf w)) } } (.ref s.heap.objs.size) "set" := ⟨_, hS, rfl⟩
      have hli := PySem.F.called_set.init.lookup
      have hbi := PySem.F.called_set.init.bind (.ref s.heap.objs.size)
      repeat (any_goals (first | assumption | wp_step))
      refine codeAny_mono (codeAny_call_builtin (R := wants (fun r s₂ => r = .none ∧ ∃ h' tk, s₂ = { s with heap := h', toks := tk } ∧ SetTx prog w h' s.heap.objs.size (foldT ns) ∧
          (∀ b o, b < s.heap.objs.size → s.heap.get? b = some o → h'.get? b = some o)) E) PySem.F.called_set.init.plain PySem.F.entry_set_init (PySem.check_set_init_1 hT ?_)) fun r₂ s₂ hr₂ => ?_
      · obtain ⟨ol, hol, hcl, nl, hdl⟩ := hl
        obtain ⟨ocls, odict, odata, oslots⟩ := ol
        simp only at hcl hdl
        subst hcl; subst hdl
        have hol' : (s.heap.push { cls := .type "set", dict := none, data := .set #[] 0 (.fresh 0 0 (ledOf w)) }).get? l = some { cls := .type "list", dict := odict, data := .seq items nl, slots := oslots } := Heap.get?_push_of_some _ hol
        have hsls := PySem.F.sub_list_set
        have hslf := PySem.F.sub_list_frozenset
        have hne : (Value.type "list" == Value.type "dict") = false := by decide
        have hl1 : (s.heap.push { cls := .type "set", dict := none, data := .set #[] 0 (.fresh 0 0 (ledOf w)) }).IsList l items := ⟨_, hol', rfl, nl, rfl⟩
        unfold Builtin.«set.__init__» noKeywords Builtin.Frozenset.updateFrom
        generalize hPI : pyIter = PI
        wp_walk
        subst hPI
        refine wpAny_pyIter_list hl1 ?_
        refine wpAny_bind (wpAny_runValue ?_)
        have hlS : l < s.heap.objs.size := Heap.lt_size hol
        have hh3 : A.in1.in1.in1.handled = none := by simp [hh]
        have hneI : l ≠ (s.heap.push { cls := .type "set", dict := none, data := .set #[] 0 (.fresh 0 0 (ledOf w)) }).objs.size := by
          rw [Heap.size_push]; exact Nat.ne_of_lt (Nat.lt_succ_of_lt hlS)
        have hSf : s.heap.objs.size ∉ [(s.heap.push { cls := .type "set", dict := none, data := .set #[] 0 (.fresh 0 0 (ledOf w)) }).objs.size, l] := by
          rw [Heap.size_push]; simp only [List.mem_cons, List.mem_singleton, List.not_mem_nil, or_false, not_or]
          exact ⟨Nat.ne_of_lt (Nat.lt_succ_self _), Nat.ne_of_gt hlS⟩
        have hval : ∀ (i : Nat) (v : Value), items[i]? = some v → ∃ t k, ns[i]? = some k ∧ v = .str k t := fun i v hv =>
          strs_at hi i v (by rw [Array.getElem?_toList]; exact hv)
        refine update_tx ((Walks.list hh3 _ l hneI items).toS) s.heap.objs.size hSf ns hlen (by omega) hval (items.size - 0) 0 _ (by omega) (Nat.zero_le _)
          ⟨⟨_, Heap.get?_push_size _ rfl, rfl, rfl⟩, (hl1.push _)⟩ ?hS0 ?hR
        case hS0 =>
          have hget : ((s.heap.push { cls := .type "set", dict := none, data := .set #[] 0 (.fresh 0 0 (ledOf w)) }).push { cls := .type "list_iterator", data := .fields #[.ref l, .int 0 0] }).get? s.heap.objs.size
              = some { cls := .type "set", dict := none, data := .set #[] 0 (.fresh 0 0 (ledOf w)) } := Heap.get?_push_of_some _ hS
          exact ⟨_, #[], 0, _, hget, ⟨rfl, rfl, rfl⟩, rfl, rfl, rfl, fun z => absurd rfl z, tx_nil⟩
        case hR =>
          intro s' hm hS'
          obtain ⟨h', g', d', tk', os'⟩ := s'
          have eg : g' = s.gens := hm.gens
          have ed : d' = s.drawn := hm.drawn
          have eo : os' = s.os := hm.os
          subst eg; subst ed; subst eo
          show wpAny _ _ _ _ _ _
          refine wpAny_pure ?_
          show wpAny _ _ (ret Value.none) _ _ _
          refine wpAny_pure ⟨rfl, h', tk', rfl, hS', fun b o hb e => ?_⟩
          have hb1 : b ≠ s.heap.objs.size := Nat.ne_of_lt hb
          have hb2 : b ≠ (s.heap.push { cls := .type "set", dict := none, data := .set #[] 0 (.fresh 0 0 (ledOf w)) }).objs.size := by
            rw [Heap.size_push]; exact Nat.ne_of_lt (Nat.lt_succ_of_lt hb)
          exact hm.heap b o (by simp only [List.mem_cons, List.mem_singleton, List.not_mem_nil, or_false, not_or]; exact ⟨hb1, hb2⟩) (Heap.get?_push_of_some _ (Heap.get?_push_of_some _ e))
      · cases r₂ with
        | error e => exact hr₂
        | ok fl₂ =>
          cases fl₂ with
          | ret r =>
            obtain ⟨rfl, h', tk, rfl, hS', hk'⟩ := hr₂
            repeat (any_goals (first | assumption | wp_step))
            exact h _ _ hS' hk'
          | _ => exact hr₂.elim
    | _ => exact hr.elim
end
end L2

set_option Elab.async false
set_option linter.all false
set_option maxRecDepth 100000
namespace L2
open PySem PySem.Spec PyProof.Rows
/-! ### a small set of texts walked, sorted -/
section
variable {prog : Program} {w : World} {A : Around} {E : Value → Shared → Prop} {s : Shared} {M : Model}
theorem wpAny_choose {src : Source} {n : Nat} {Q : Nat → Shared → Prop} (hn : n ≠ 0) (h : ∀ i d, i < n → Q i { s with drawn := d }) : wpAny M A (choose src n) Q E s := by
  intro Γ p _
  show Sem.wp M Γ (.choose src n .pure) _ _ p s
  rw [Sem.wp_choose]
  exact ⟨hn, h _ _ (Nat.mod_lt _ (Nat.pos_of_ne_zero hn))⟩
theorem wpAny_drawOrder {α : Type} : ∀ (n : Nat) (xs : List α) (s : Shared) {Q : List α → Shared → Prop}, xs.length = n → (∀ ys d, ys.Perm xs → Q ys { s with drawn := d }) → wpAny M A (drawOrder n xs) Q E s
  | 0, xs, s, Q, hl, h => by
    have : xs = [] := List.length_eq_zero_iff.mp hl
    subst this
    have e : s = { s with drawn := s.drawn } := by cases s; rfl
    rw [e]
    exact wpAny_pure (h [] _ (.refl _))
  | n + 1, [], s, Q, hl, h => by simp at hl
  | n + 1, x :: xs, s, Q, hl, h => by
    show wpAny M A (choose .order (x :: xs).length >>= _) Q E s
    refine wpAny_bind (wpAny_choose (by simp) fun i d hi => ?_)
    rw [List.getElem?_eq_getElem hi]
    dsimp only
    refine wpAny_bind (wpAny_drawOrder n ((x :: xs).eraseIdx i) _ (by rw [List.length_eraseIdx, if_pos hi]; omega) fun ys d2 hp => wpAny_pure ?_)
    refine h _ d2 ?_
    have hm := List.perm_middle (a := (x :: xs)[i]) (l₁ := (x :: xs).take i) (l₂ := (x :: xs).drop (i + 1))
    rw [← List.drop_eq_getElem_cons hi, List.take_append_drop] at hm
    refine (hp.cons _).trans ?_
    rw [List.eraseIdx_eq_take_drop_succ]
    exact hm.symm
end
structure TxA (prog : Program) (w : World) (h : Heap) (a : Addr) (es : Array (Int × Value)) (ep : Nat) (t : SetTable) : Prop where
  at_ : ∃ o, h.get? a = some o ∧ o.ExactSet ∧ o.data = .set es ep t
  fits : t.fits es.size = true
  led : t.led = ledOf w
  plain : es.size ≠ 0 → t.plain = false
theorem TxA.keep {prog : Program} {w : World} {h h' : Heap} {a : Addr} {es : Array (Int × Value)} {ep : Nat} {t : SetTable} (S : TxA prog w h a es ep t) (k : ∀ o, h.get? a = some o → h'.get? a = some o) : TxA prog w h' a es ep t := by
  obtain ⟨⟨o, ho, r⟩, a1, a2, a3⟩ := S
  exact ⟨⟨o, k o ho, r⟩, a1, a2, a3⟩
/-- the slot at which the walk of a set that is not drawn stands -/
def SlotT (w : World) (t : SetTable) (i slot : Nat) : Prop := w.params.followText "set-order" = true ∨ (i = 0 ∧ slot = 0) ∨ (i = 1 ∧ ∃ p, t.place[0]? = some p ∧ slot = p + 1)
section
variable {prog : Program} {w : World} {A : Around} {E : Value → Shared → Prop} {s : Shared}
theorem arr1 {x : Array Nat} (h : x.size = 1) : ∃ p, x = #[p] := by
  obtain ⟨p, hp⟩ := List.length_eq_one_iff.mp (by simpa using h : x.toList.length = 1)
  exact ⟨p, by rw [← Array.toArray_toList (xs := x), hp]⟩
theorem TxA.psize {a : Addr} {es : Array (Int × Value)} {ep : Nat} {t : SetTable} {h : Heap} (S : TxA prog w h a es ep t) : t.place.size = es.size := by
  have := S.fits
  unfold SetTable.fits at this
  rw [Bool.and_eq_true] at this
  simpa using this.1
theorem setNext_tx {a : Addr} {es : Array (Int × Value)} {ep i slot : Nat} {t : SetTable} {Q : Option (Value × Nat) → Shared → Prop} (S : TxA prog w s.heap a es ep t) (hm : w.params.followText "set-order" = true ∨ es.size ≤ 1) (hi : i ≤ es.size) (hs : SlotT w t i slot)
    (h : ∀ r, (i = es.size → r = none) → (∀ hlt : i < (ordOf w a ep es).size, ∃ slot', r = some ((ordOf w a ep es)[i].2, slot') ∧ SlotT w t (i + 1) slot') → Q r s) : wpAny (model prog w) A (setNext a slot i ep) Q E s := by
  obtain ⟨o, ho, hex, hd⟩ := S.at_
  have hf := S.fits
  have hord := (ord_perm w a ep es).length_eq
  rw [Array.length_toList, Array.length_toList] at hord
  unfold setNext
  refine wpAny_bind (wpAny_setState_of ho hd hf ?_)
  dsimp only
  refine wpAny_bind ?_
  unfold setsByText
  refine wpAny_bind (wpAny_askSetting (wpAny_pure ?_))
  dsimp only
  cases hb : w.params.followText "set-order" with
  | true =>
    have hb' : (model prog w).w.params.followText "set-order" = true := hb
    rw [if_pos hb']
    rw [if_neg (by simp)]
    unfold setWalk
    refine wpAny_bind (wpAny_bind (wpAny_setState_of ho hd hf ?_))
    dsimp only
    unfold setsByText
    refine wpAny_bind (wpAny_bind (wpAny_askSetting (wpAny_pure ?_)))
    dsimp only
    rw [if_pos hb']
    refine wpAny_bind (wpAny_askSetting (wpAny_pure (wpAny_pure ?_)))
    have e1 : ordOf w a ep es = pickOrder (w.params.setOrder a ep) es := by unfold ordOf; rw [if_pos hb]
    refine h _ (fun z => ?_) (fun hlt => ?_)
    · have : (pickOrder (w.params.setOrder a ep) es)[i]? = none := Array.getElem?_eq_none (by rw [← e1, hord]; omega)
      show Option.map _ ((pickOrder (w.params.setOrder a ep) es)[i]?) = none
      rw [this]
      rfl
    · refine ⟨slot, ?_, .inl hb⟩
      have : (pickOrder (w.params.setOrder a ep) es)[i]? = some (ordOf w a ep es)[i] := by rw [← e1]; exact Array.getElem?_eq_getElem hlt
      show Option.map _ ((pickOrder (w.params.setOrder a ep) es)[i]?) = _
      rw [this]
      rfl
  | false =>
    have hb' : ¬ (model prog w).w.params.followText "set-order" = true := by
      show ¬ w.params.followText "set-order" = true
      rw [hb]
      exact Bool.false_ne_true
    rw [if_neg hb']
    have hled : t.led = true := by rw [S.led]; unfold ledOf; rw [hb]; rfl
    have h1 : es.size ≤ 1 := by
      rcases hm with z | z
      · rw [hb] at z; cases z
      · exact z
    have hps := S.psize
    have e1 : ordOf w a ep es = es := by unfold ordOf; rw [if_neg (by rw [hb]; exact Bool.false_ne_true)]
    have hs' : (i = 0 ∧ slot = 0) ∨ (i = 1 ∧ ∃ p, t.place[0]? = some p ∧ slot = p + 1) := by
      rcases hs with z | z
      · rw [hb] at z; cases z
      · exact z
    split
    · rename_i hz
      have hz' : (!t.plain && decide (es.size > 1)) = true := hz
      rw [Bool.and_eq_true] at hz'
      have := of_decide_eq_true hz'.2
      omega
    · refine wpAny_bind ?_
      have hmb : (if (!t.led && !es.isEmpty) = true then (unsupported "set:maker-not-led" : Sem Unit) else pure PUnit.unit) = pure PUnit.unit := by rw [hled]; rfl
      show wpAny _ _ (if (!t.led && !es.isEmpty) = true then (unsupported "set:maker-not-led" : Sem Unit) else pure PUnit.unit) _ _ _
      rw [hmb]
      refine wpAny_pure (wpAny_pure ?_)
      refine h _ (fun z => ?_) (fun hlt => ?_)
      · have hbl : es.size ≤ SetTable.below t.place slot := by
          rcases hs' with ⟨rfl, rfl⟩ | ⟨rfl, p, hp, rfl⟩
          · omega
          · have : t.place = #[p] := by
              have hp1 : t.place.size = 1 := by omega
              obtain ⟨q, hq⟩ := arr1 hp1
              rw [hq] at hp
              have : q = p := by simpa using hp
              rw [hq, this]
            rw [this, ← z]
            simp [SetTable.below, SetTable.below.go]
        rw [Array.getElem?_eq_none hbl]
      · rw [hord] at hlt
        rcases hs' with ⟨rfl, rfl⟩ | ⟨rfl, p, hp, rfl⟩
        · have hp1 : t.place.size = 1 := by omega
          obtain ⟨p, hp⟩ := arr1 hp1
          have hbl : SetTable.below t.place 0 = 0 := by rw [hp]; simp [SetTable.below, SetTable.below.go]
          refine ⟨p + 1, ?_, .inr (.inr ⟨rfl, p, by rw [hp]; rfl, rfl⟩)⟩
          rw [hbl, hp]
          have g1 : es[0]? = some es[0] := Array.getElem?_eq_getElem hlt
          rw [g1]
          simp [e1]
        · omega
end
end L2

set_option Elab.async false
set_option linter.all false
set_option maxRecDepth 100000
namespace L2
open PySem PySem.Spec PyProof.Rows
section
variable {prog : Program} {w : World} {A : Around} {E : Value → Shared → Prop} {s : Shared}
theorem nextT_item {it a : Addr} {es : Array (Int × Value)} {ep i slot : Nat} {t : SetTable} {Q : Option Value → Shared → Prop} (hit : SetIt s.heap it a slot i es.size ep) (S : TxA prog w s.heap a es ep t) (hm : w.params.followText "set-order" = true ∨ es.size ≤ 1) (hi : i < es.size) (hs : SlotT w t i slot)
    (hQ : ∀ h' slot' x, (ordOf w a ep es)[i]? = some x → SetIt h' it a slot' (i + 1) es.size ep → SlotT w t (i + 1) slot' → Heap.SameBut it s.heap h' → Q (some x.2) { s with heap := h' }) : wpAny (model prog w) A (pyNext (.ref it)) Q E s := by
  obtain ⟨o, ho, hc, hd⟩ := id hit
  obtain ⟨oS, hoS, hexS, hdS⟩ := S.at_
  have hf := S.fits
  have hord := (ord_perm w a ep es).length_eq
  rw [Array.length_toList, Array.length_toList] at hord
  have hlt : i < (ordOf w a ep es).size := by rw [hord]; exact hi
  unfold pyNext
  refine wpAny_bind (wpAny_attempt (wpAny_callSpecial?_slot (name := Str.ofString "__next__") hit.typeIs slot_setit_next
    (wpAny_call_entry slot_setit_next hit.typeIs entry_setit_next ?_ (args_setit_next _))))
  show wpAny _ _ (fieldsOf (.ref it) >>= _) _ _ s
  refine wpAny_bind (wpAny_fieldsOf ho hd ?_)
  dsimp only
  show wpAny _ _ (setEntries a >>= _) _ _ s
  refine wpAny_bind (wpAny_setEntries_of hoS hdS hf ?_)
  have hsz : ((es.size : Int) != (es.size : Int)) = false := by simp
  rw [hsz]
  simp only [Bool.false_eq_true, if_false]
  show wpAny _ _ (setNext a (Int.toNat (slot : Int)) (Int.toNat (i : Int)) (Int.toNat (ep : Int)) >>= _) _ _ s
  rw [Int.toNat_natCast, Int.toNat_natCast, Int.toNat_natCast]
  refine wpAny_bind (setNext_tx S hm (by omega) hs fun r _ hr => ?_)
  obtain ⟨slot', rfl, hs'⟩ := hr hlt
  show wpAny _ _ (setField (.ref it) 0 (rawInt slot') >>= _) _ _ s
  refine wpAny_bind (wpAny_setField ho hd (by simp) ?_)
  have hg1 := Heap.get?_update_self (h := s.heap) (a := it) (o := o) (Obj.mapFields (·.setIfInBounds 0 (rawInt slot'))) ho (Obj.isFreed_of_fields (Obj.data_mapFields hd _))
  refine wpAny_bind (wpAny_setField hg1 (Obj.data_mapFields hd _) (by simp) ?_)
  refine wpAny_pure ⟨_, rfl, wpAny_pure (hQ _ slot' _ (Array.getElem?_eq_getElem hlt) ?_ hs' ((Heap.SameBut.update ..).trans (Heap.SameBut.update ..)))⟩
  exact ⟨_, Heap.get?_update_self _ hg1 (Obj.isFreed_of_fields (Obj.data_mapFields (Obj.data_mapFields hd _) _)), (Obj.cls_mapFields ..).trans ((Obj.cls_mapFields ..).trans hc), by
    rw [Obj.data_mapFields (Obj.data_mapFields hd _)]; simp [rawInt]⟩
theorem nextT_end {it a : Addr} {es : Array (Int × Value)} {ep slot : Nat} {t : SetTable} {Q : Option Value → Shared → Prop} (hh : A.handled = none) (hit : SetIt s.heap it a slot es.size es.size ep) (S : TxA prog w s.heap a es ep t) (hm : w.params.followText "set-order" = true ∨ es.size ≤ 1) (hs : SlotT w t es.size slot)
    (hQ : ∀ h', Heap.ExtBut it s.heap h' → Q none { s with heap := h' }) : wpAny (model prog w) A (pyNext (.ref it)) Q E s := by
  obtain ⟨o, ho, hc, hd⟩ := id hit
  obtain ⟨oS, hoS, hexS, hdS⟩ := S.at_
  have hf := S.fits
  unfold pyNext
  refine wpAny_bind (wpAny_attempt (wpAny_callSpecial?_slot (name := Str.ofString "__next__") hit.typeIs slot_setit_next
    (wpAny_call_entry slot_setit_next hit.typeIs entry_setit_next ?_ (args_setit_next _))))
  show wpAny _ _ (fieldsOf (.ref it) >>= _) _ _ s
  refine wpAny_bind (wpAny_fieldsOf ho hd ?_)
  dsimp only
  show wpAny _ _ (setEntries a >>= _) _ _ s
  refine wpAny_bind (wpAny_setEntries_of hoS hdS hf ?_)
  have hsz : ((es.size : Int) != (es.size : Int)) = false := by simp
  rw [hsz]
  simp only [Bool.false_eq_true, if_false]
  show wpAny _ _ (setNext a (Int.toNat (slot : Int)) (Int.toNat (es.size : Int)) (Int.toNat (ep : Int)) >>= _) _ _ s
  rw [Int.toNat_natCast, Int.toNat_natCast, Int.toNat_natCast]
  refine wpAny_bind (setNext_tx S hm (Nat.le_refl _) hs fun r hr _ => ?_)
  rw [hr rfl]
  show wpAny _ _ (setField (.ref it) 2 .none >>= _) _ _ s
  refine wpAny_bind (wpAny_setField ho hd (by simp) ?_)
  show wpAny _ _ (newExc (.type "StopIteration") [] >>= _) _ _ _
  refine wpAny_bind ?_
  simp only [newExc, newTuple]
  refine wpAny_bind (wpAny_newObj_type ?_ (by size_fits))
  refine wpAny_bind (m := firstArgMember _ _) (wpAny_of_eq (a := Value.none) (by first | rfl | (simp only [firstArgMember]; rfl)) ?_)
  refine wpAny_newObj_type ?_ (by size_fits)
  simp only [raiseNew]
  refine wpAny_bind (wpAny_handled ?_)
  first | rw [show A.in1.handled = none from hh] | rw [hh]
  refine wpAny_bind (wpAny_pure (wpAny_throw ?_))
  refine wpAny_bind (wpAny_isInstance (T := "StopIteration") (b := true) ⟨_, Heap.get?_push_size _ rfl, rfl⟩ isSubtype_stop ?_)
  exact wpAny_pure (hQ _ (((Heap.SameBut.update ..).extBut.push _).push _))
/-- the walker of a drawn set -/
def SetItD (h : Heap) (it a T : Addr) (i n ep : Nat) : Prop := ∃ o, h.get? it = some o ∧ o.cls = .type "set_iterator" ∧ o.data = .fields #[.ref T, .int i 0, .ref a, .int n 0, .int ep 0]
def PlT (h : Heap) (T : Addr) (ps : List Nat) : Prop := ∃ o m, h.get? T = some o ∧ o.data = .seq ((ps.map fun (i : Nat) => rawInt i).toArray) m
theorem SetItD.typeIs {it a T : Addr} {i n ep : Nat} (h : SetItD s.heap it a T i n ep) : s.TypeIs (.ref it) "set_iterator" := let ⟨o, ho, hc, _⟩ := h; ⟨o, ho, hc⟩
theorem nextD_item {it a T : Addr} {es : Array (Int × Value)} {ep i : Nat} {t : SetTable} {ps : List Nat} {p : Nat} {x : Int × Value} {Q : Option Value → Shared → Prop} (hit : SetItD s.heap it a T i es.size ep) (hT : PlT s.heap T ps) (S : TxA prog w s.heap a es ep t)
    (hp : ps[i]? = some p) (hx : es[p]? = some x)
    (hQ : ∀ h', SetItD h' it a T (i + 1) es.size ep → Heap.SameBut it s.heap h' → Q (some x.2) { s with heap := h' }) : wpAny (model prog w) A (pyNext (.ref it)) Q E s := by
  obtain ⟨o, ho, hc, hd⟩ := id hit
  obtain ⟨oS, hoS, hexS, hdS⟩ := S.at_
  obtain ⟨oT, mT, hoT, hdT⟩ := hT
  have hf := S.fits
  unfold pyNext
  refine wpAny_bind (wpAny_attempt (wpAny_callSpecial?_slot (name := Str.ofString "__next__") hit.typeIs slot_setit_next
    (wpAny_call_entry slot_setit_next hit.typeIs entry_setit_next ?_ (args_setit_next _))))
  show wpAny _ _ (fieldsOf (.ref it) >>= _) _ _ s
  refine wpAny_bind (wpAny_fieldsOf ho hd ?_)
  dsimp only
  show wpAny _ _ (setEntries a >>= _) _ _ s
  refine wpAny_bind (wpAny_setEntries_of hoS hdS hf ?_)
  have hsz : ((es.size : Int) != (es.size : Int)) = false := by simp
  rw [hsz]
  simp only [Bool.false_eq_true, if_false]
  show wpAny _ _ (seqItems? (.ref T) >>= _) _ _ s
  refine wpAny_bind (wpAny_seqItems hoT hdT ?_)
  dsimp only
  have hpl : ((ps.map fun (i : Nat) => rawInt i).toArray)[(i : Int).toNat]? = some (.int (p : Int) 0) := by
    rw [Int.toNat_natCast, List.getElem?_toArray, List.getElem?_map, hp]
    rfl
  rw [hpl]
  dsimp only
  unfold setNextDrawn
  refine wpAny_bind (wpAny_bind (wpAny_setState_of hoS hdS hf ?_))
  dsimp only
  have hep : (ep != (ep : Int).toNat) = false := by rw [Int.toNat_natCast]; simp
  rw [hep]
  simp only [Bool.false_eq_true, if_false]
  rw [Int.toNat_natCast, hx]
  dsimp only
  refine wpAny_pure ?_
  refine wpAny_bind (wpAny_setField ho hd (by simp) ?_)
  refine wpAny_pure ⟨x.2, rfl, wpAny_pure (hQ _ ?_ (Heap.SameBut.update ..))⟩
  exact ⟨_, Heap.get?_update_self _ ho (Obj.isFreed_of_fields (Obj.data_mapFields hd _)), (Obj.cls_mapFields ..).trans hc, by
    rw [Obj.data_mapFields hd]; simp [rawInt]⟩
theorem nextD_end {it a T : Addr} {es : Array (Int × Value)} {ep : Nat} {t : SetTable} {ps : List Nat} {Q : Option Value → Shared → Prop} (hh : A.handled = none) (hit : SetItD s.heap it a T es.size es.size ep) (hT : PlT s.heap T ps) (S : TxA prog w s.heap a es ep t)
    (hp : ps.length = es.size) (hQ : ∀ h', Heap.ExtBut it s.heap h' → Q none { s with heap := h' }) : wpAny (model prog w) A (pyNext (.ref it)) Q E s := by
  obtain ⟨o, ho, hc, hd⟩ := id hit
  obtain ⟨oS, hoS, hexS, hdS⟩ := S.at_
  obtain ⟨oT, mT, hoT, hdT⟩ := hT
  have hf := S.fits
  unfold pyNext
  refine wpAny_bind (wpAny_attempt (wpAny_callSpecial?_slot (name := Str.ofString "__next__") hit.typeIs slot_setit_next
    (wpAny_call_entry slot_setit_next hit.typeIs entry_setit_next ?_ (args_setit_next _))))
  show wpAny _ _ (fieldsOf (.ref it) >>= _) _ _ s
  refine wpAny_bind (wpAny_fieldsOf ho hd ?_)
  dsimp only
  show wpAny _ _ (setEntries a >>= _) _ _ s
  refine wpAny_bind (wpAny_setEntries_of hoS hdS hf ?_)
  have hsz : ((es.size : Int) != (es.size : Int)) = false := by simp
  rw [hsz]
  simp only [Bool.false_eq_true, if_false]
  show wpAny _ _ (seqItems? (.ref T) >>= _) _ _ s
  refine wpAny_bind (wpAny_seqItems hoT hdT ?_)
  dsimp only
  have hpl : ((ps.map fun (i : Nat) => rawInt i).toArray)[(es.size : Int).toNat]? = none := by
    rw [Int.toNat_natCast, List.getElem?_toArray]
    exact List.getElem?_eq_none (by rw [List.length_map, hp]; exact Nat.le_refl _)
  rw [hpl]
  dsimp only
  refine wpAny_bind (wpAny_setField ho hd (by simp) ?_)
  have hg1 := Heap.get?_update_self (h := s.heap) (a := it) (o := o) (Obj.mapFields (·.setIfInBounds 0 (rawInt 0))) ho (Obj.isFreed_of_fields (Obj.data_mapFields hd _))
  refine wpAny_bind (wpAny_setField hg1 (Obj.data_mapFields hd _) (by simp) ?_)
  show wpAny _ _ (newExc (.type "StopIteration") [] >>= _) _ _ _
  refine wpAny_bind ?_
  simp only [newExc, newTuple]
  refine wpAny_bind (wpAny_newObj_type ?_ (by size_fits))
  refine wpAny_bind (m := firstArgMember _ _) (wpAny_of_eq (a := Value.none) (by first | rfl | (simp only [firstArgMember]; rfl)) ?_)
  refine wpAny_newObj_type ?_ (by size_fits)
  simp only [raiseNew]
  refine wpAny_bind (wpAny_handled ?_)
  first | rw [show A.in1.handled = none from hh] | rw [hh]
  refine wpAny_bind (wpAny_pure (wpAny_throw ?_))
  refine wpAny_bind (wpAny_isInstance (T := "StopIteration") (b := true) ⟨_, Heap.get?_push_size _ rfl, rfl⟩ isSubtype_stop ?_)
  exact wpAny_pure (hQ _ ((((Heap.SameBut.update ..).trans (Heap.SameBut.update ..)).extBut.push _).push _))
end
theorem PlT.keep {h h' : Heap} {T : Addr} {ps : List Nat} (S : PlT h T ps) (k : ∀ o, h.get? T = some o → h'.get? T = some o) : PlT h' T ps := let ⟨o, m, ho, r⟩ := S; ⟨o, m, k o ho, r⟩
theorem walksT {prog : Program} {w : World} {A : Around} (hh : A.handled = none) (I a : Addr) (hne : a ≠ I) (es : Array (Int × Value)) (ep : Nat) (t : SetTable) (hm : w.params.followText "set-order" = true ∨ es.size ≤ 1) :
    Walks prog w A I [I, a] [I] es.size (fun i v => ∃ x, (ordOf w a ep es)[i]? = some x ∧ v = x.2) (fun i h => (∃ slot, SetIt h I a slot i es.size ep ∧ SlotT w t i slot) ∧ TxA prog w h a es ep t) where
  sub := fun b hb => by simp at hb; simp [hb]
  frame := fun _ _ _ st hk => ⟨let ⟨sl, ⟨o, ho, r⟩, r2⟩ := st.1; ⟨sl, ⟨o, hk I (by simp) o ho, r⟩, r2⟩, st.2.keep fun o e => hk a (by simp) o e⟩
  item := fun i s Q E hi st hQ => by
    obtain ⟨⟨sl, h1, h2⟩, h3⟩ := st
    refine nextT_item h1 h3 hm hi h2 fun h' sl' x hx hit' hs' hsb => ?_
    exact hQ _ h' s.toks ⟨_, hx, rfl⟩ ⟨⟨sl', hit', hs'⟩, h3.keep fun o e => hsb.extBut a o hne e⟩ fun b o hb e => hsb.extBut b o (fun h => hb (by simp [h])) e
  done := fun s Q E st hQ => by
    obtain ⟨⟨sl, h1, h2⟩, h3⟩ := st
    exact nextT_end hh h1 h3 hm h2 fun h' he' => hQ h' s.toks fun b o hb e => he' b o (fun h => hb (by simp [h])) e
  self := fun _ _ _ _ st hQ => by
    obtain ⟨⟨sl, h1, h2⟩, h3⟩ := st
    refine wpAny_pyIter_slot h1.typeIs slot_setit_iter (wpAny_call_entry slot_setit_iter h1.typeIs entry_setit_iter ?_ (args_setit_iter _))
    show wpAny _ _ (ret (.ref I)) _ _ _
    exact wpAny_pure ⟨_, rfl, "set_iterator", _, h1.typeIs, slot_setit_next.lookup, hQ⟩
theorem fm_map {es : Array (Int × Value)} : ∀ {l : List Nat}, (∀ p ∈ l, p < es.size) → l.filterMap (es[·]?) = l.map (fun p => es.getD p (0, .none))
  | [], _ => rfl
  | p :: l, h => by
    have hp := h p List.mem_cons_self
    rw [List.filterMap_cons_some (b := es.getD p (0, .none)) (by simp [hp]), List.map_cons, fm_map fun q hq => h q (List.mem_cons_of_mem _ hq)]
theorem walksD {prog : Program} {w : World} {A : Around} (hh : A.handled = none) (I a T : Addr) (hne : a ≠ I) (hne2 : T ≠ I) (es : Array (Int × Value)) (ep : Nat) (t : SetTable) (ps : List Nat) (hp : ps.Perm (List.range es.size)) :
    Walks prog w A I [I, a, T] [I] es.size (fun i v => ∃ x, ((ps.filterMap (es[·]?)))[i]? = some x ∧ v = x.2) (fun i h => SetItD h I a T i es.size ep ∧ PlT h T ps ∧ TxA prog w h a es ep t) where
  sub := fun b hb => by simp at hb; simp [hb]
  frame := fun _ _ _ st hk => ⟨let ⟨o, ho, r⟩ := st.1; ⟨o, hk I (by simp) o ho, r⟩, st.2.1.keep fun o e => hk T (by simp) o e, st.2.2.keep fun o e => hk a (by simp) o e⟩
  item := fun i s Q E hi st hQ => by
    have hpl : ps.length = es.size := by rw [hp.length_eq, List.length_range]
    have hlt : i < ps.length := by omega
    have hpi : ps[i] < es.size := List.mem_range.mp (hp.subset (List.getElem_mem hlt))
    have hfm := fm_map (es := es) (fun p hp' => List.mem_range.mp (hp.subset hp') : ∀ p ∈ ps, p < es.size)
    refine nextD_item st.1 st.2.1 st.2.2 (List.getElem?_eq_getElem hlt) (Array.getElem?_eq_getElem hpi) fun h' hit' hsb => ?_
    refine hQ _ h' s.toks ⟨es[ps[i]], ?_, rfl⟩ ⟨hit', st.2.1.keep fun o e => hsb.extBut T o hne2 e, st.2.2.keep fun o e => hsb.extBut a o hne e⟩ fun b o hb e => hsb.extBut b o (fun h => hb (by simp [h])) e
    rw [hfm, List.getElem?_map, List.getElem?_eq_getElem hlt]
    simp [hpi]
  done := fun s Q E st hQ => nextD_end hh st.1 st.2.1 st.2.2 (by rw [hp.length_eq, List.length_range]) fun h' he' => hQ h' s.toks fun b o hb e => he' b o (fun h => hb (by simp [h])) e
  self := fun _ _ _ _ st hQ => by
    refine wpAny_pyIter_slot st.1.typeIs slot_setit_iter (wpAny_call_entry slot_setit_iter st.1.typeIs entry_setit_iter ?_ (args_setit_iter _))
    show wpAny _ _ (ret (.ref I)) _ _ _
    exact wpAny_pure ⟨_, rfl, "set_iterator", _, st.1.typeIs, slot_setit_next.lookup, hQ⟩
end L2

set_option Elab.async false
set_option linter.all false
set_option maxRecDepth 100000
namespace L2
open PySem PySem.Spec PyProof.Rows
/-- a walk that has begun -/
structure Begun (prog : Program) (w : World) (h : Heap) (a : Addr) (es : Array (Int × Value)) (h1 : Heap) (I : Addr) : Prop where
  keep : ∀ b o, h.get? b = some o → h1.get? b = some o
  size : h.objs.size ≤ h1.objs.size
  it : h.objs.size ≤ I
  walk : ∃ (ord : List (Int × Value)) (fp : List Addr) (St : Nat → Heap → Prop), ord.Perm es.toList ∧ (∀ b ∈ fp, b = a ∨ h.objs.size ≤ b) ∧ St 0 h1 ∧
    ∀ A : Around, A.handled = none → Walks prog w A I fp [I] es.size (fun i v => ∃ x, ord[i]? = some x ∧ v = x.2) St
section
variable {prog : Program} {w : World} {A : Around} {E : Value → Shared → Prop} {s : Shared}
theorem iter_tx {a : Addr} {es : Array (Int × Value)} {ep : Nat} {t : SetTable} {Q : Value → Shared → Prop} (S : TxA prog w s.heap a es ep t) (hz : es.size ≤ 1000)
    (hQ : ∀ h1 I d, Begun prog w s.heap a es h1 I → Q (.ref I) { s with heap := h1, drawn := d }) : wpAny (model prog w) A (pyIter (.ref a)) Q E s := by
  obtain ⟨o, ho, hex, hd⟩ := S.at_
  have hf := S.fits
  have hT : s.TypeIs (.ref a) "set" := ⟨o, ho, hex.1⟩
  have ha : a < s.heap.objs.size := Heap.lt_size ho
  refine wpAny_pyIter_slot hT PySem.F.slot_set_iter (wpAny_call_entry PySem.F.slot_set_iter hT entry_set_iter' ?_ (PySem.F.args_set_iter_1 _))
  unfold Builtin.«frozenset.__iter__» Builtin.Frozenset.slot0 slotArgs
  simp only [List.isEmpty_nil, Bool.not_true, Bool.false_eq_true, ↓reduceIte, bind_assoc, List.length_nil, bne_self_eq_false]
  unfold Builtin.Frozenset.addrOf Builtin.Frozenset.sizeOf
  refine wpAny_bind (wpAny_pure ?_)
  try dsimp only
  refine wpAny_bind (wpAny_pure ?_)
  refine wpAny_bind (wpAny_bind (wpAny_setEntries_of ho hd hf (wpAny_pure ?_)))
  unfold setDrawn
  refine wpAny_bind (wpAny_bind (wpAny_setState_of ho hd hf ?_))
  dsimp only
  unfold setsByText
  refine wpAny_bind (wpAny_bind (wpAny_askSetting (wpAny_pure ?_)))
  refine wpAny_pure ?_
  split
  · rename_i hzz
    refine wpAny_bind ?_
    refine wpAny_drawOrder es.size (List.range es.size) s (by simp) fun ps d hp => ?_
    refine wpAny_bind (wpAny_newTuple ?_ (by rw [List.length_map, hp.length_eq, List.length_range]; exact Nat.le_trans hz (by decide)))
    refine wpAny_bind (wpAny_setEpoch_of (s := { s with heap := s.heap.push { cls := .type "tuple", data := .seq ((ps.map fun (i : Nat) => rawInt i)).toArray }, drawn := d }) (Heap.get?_push_of_some _ ho) hd hf ?_)
    refine wpAny_bind (wpAny_newObj_type (wpAny_pure ⟨_, rfl, "set_iterator", _, ⟨_, Heap.get?_push_size _ rfl, rfl⟩, slot_setit_next.lookup, ?_⟩))
    have hne : a ≠ (s.heap.push { cls := .type "tuple", data := .seq ((ps.map fun (i : Nat) => rawInt i)).toArray }).objs.size := by rw [Heap.size_push]; exact Nat.ne_of_lt (Nat.lt_succ_of_lt ha)
    have hne2 : s.heap.objs.size ≠ (s.heap.push { cls := .type "tuple", data := .seq ((ps.map fun (i : Nat) => rawInt i)).toArray }).objs.size := by rw [Heap.size_push]; exact Nat.ne_of_lt (Nat.lt_succ_self _)
    refine hQ _ _ d ⟨fun b o e => Heap.get?_push_of_some _ (Heap.get?_push_of_some _ e), by rw [Heap.size_push, Heap.size_push]; omega, by rw [Heap.size_push]; omega, _, _, _, ?_, ?_, ?_, fun A' hh => walksD hh _ a s.heap.objs.size hne hne2 es ep t ps hp⟩
    · have := hp.filterMap (es[·]?)
      rw [filterMap_getElem?_range] at this
      exact this
    · intro b hb
      simp only [List.mem_cons, List.not_mem_nil, or_false] at hb
      rcases hb with rfl | rfl | rfl
      · right; rw [Heap.size_push]; omega
      · left; rfl
      · right; exact Nat.le_refl _
    · exact ⟨⟨_, Heap.get?_push_size _ rfl, rfl, rfl⟩, ⟨_, _, Heap.get?_push_of_some _ (Heap.get?_push_size _ rfl), rfl⟩, S.keep fun o e => Heap.get?_push_of_some _ (Heap.get?_push_of_some _ e)⟩
  · rename_i hzz
    have hm : w.params.followText "set-order" = true ∨ es.size ≤ 1 := by
      cases hb : w.params.followText "set-order" with
      | true => exact .inl rfl
      | false =>
        right
        by_cases h1 : es.size ≤ 1
        · exact h1
        · refine absurd ?_ hzz
          have hp := S.plain (by omega)
          show (!(w.params.followText "set-order") && (!t.plain && decide (es.size > 1))) = true
          rw [hb, hp]
          simp
          omega
    refine wpAny_bind (wpAny_pure ?_)
    refine wpAny_bind (wpAny_setEpoch_of ho hd hf ?_)
    refine wpAny_bind (wpAny_newObj_type (wpAny_pure ⟨_, rfl, "set_iterator", _, ⟨_, Heap.get?_push_size _ rfl, rfl⟩, slot_setit_next.lookup, ?_⟩))
    have hne : a ≠ s.heap.objs.size := Nat.ne_of_lt ha
    refine hQ _ _ s.drawn ⟨fun b o e => Heap.get?_push_of_some _ e, by rw [Heap.size_push]; omega, Nat.le_refl _, (ordOf w a ep es).toList, [s.heap.objs.size, a], (fun i h => (∃ slot, SetIt h s.heap.objs.size a slot i es.size ep ∧ SlotT w t i slot) ∧ TxA prog w h a es ep t), ord_perm w a ep es, ?_, ?_, fun A' hh => ?_⟩
    · intro b hb
      simp only [List.mem_cons, List.not_mem_nil, or_false] at hb
      rcases hb with rfl | rfl
      · right; exact Nat.le_refl _
      · left; rfl
    · exact ⟨⟨0, ⟨_, Heap.get?_push_size _ rfl, rfl, rfl⟩, .inr (.inl ⟨rfl, rfl⟩)⟩, S.keep fun o e => Heap.get?_push_of_some _ e⟩
    · have hw := walksT (prog := prog) hh s.heap.objs.size a hne es ep t hm
      have e : (fun (i : Nat) (v : Value) => ∃ x : Int × Value, (ordOf w a ep es)[i]? = some x ∧ v = x.2) = fun (i : Nat) (v : Value) => ∃ x : Int × Value, (ordOf w a ep es).toList[i]? = some x ∧ v = x.2 := by
        funext i v
        rw [Array.getElem?_toList]
      rw [e] at hw
      exact hw
theorem collect_tx {a : Addr} {es : Array (Int × Value)} {ep : Nat} {t : SetTable} {Q : List Value → Shared → Prop} (hh : A.handled = none) (S : TxA prog w s.heap a es ep t) (hz : es.size ≤ 1000)
    (hQ : ∀ s' (acc : Array Value) (ord : List (Int × Value)), (∀ b o, s.heap.get? b = some o → s'.heap.get? b = some o) → s.heap.objs.size ≤ s'.heap.objs.size → s'.gens = s.gens → s'.os = s.os → ord.Perm es.toList → ItemsOf (fun i v => ∃ x, ord[i]? = some x ∧ v = x.2) acc es.size → Q acc.toList s') :
    wpAny (model prog w) A (collect (.ref a)) Q E s := by
  have hn : es.size ≤ sizeLine := Nat.le_trans hz (by decide)
  unfold collect
  refine wpAny_bind (wpAny_runValue (codeAny_builtin PySem.F.entry_proto_collect ?_))
  rw [Around.under_plainId PySem.F.plain_proto_collect _]
  show wpAny _ A.in1 (newList [] >>= fun l => again (.builtin "list.__iadd__" ⟨[l, .ref a], []⟩)) _ _ s
  refine wpAny_bind (wpAny_newObj_type ?_)
  refine wpAny_pure ⟨plainId_quiet PySem.F.plain_list_iadd _, codeAny_builtin PySem.F.entry_list_iadd ?_⟩
  rw [Around.under_plainId PySem.F.plain_list_iadd _]
  show wpAny _ A.in1 (Builtin.List.listExtendWith (.ref s.heap.objs.size) (.ref a) (.ref s.heap.objs.size)) _ _ _
  unfold Builtin.List.listExtendWith
  obtain ⟨o, ho, hex, hd⟩ := id S.at_
  have ha : a < s.heap.objs.size := Heap.lt_size ho
  have S1 : TxA prog w (s.heap.push { cls := .type "list", data := .seq ([] : List Value).toArray }) a es ep t := S.keep fun o e => Heap.get?_push_of_some _ e
  have hT : Shared.TypeIs { s with heap := s.heap.push { cls := .type "list", data := .seq ([] : List Value).toArray } } (.ref a) "set" := ⟨o, Heap.get?_push_of_some _ ho, hex.1⟩
  refine wpAny_bind (wpAny_typeOf (T := "set") (v := .ref a) hT ?_)
  have h1 : Builtin.List.listSameRef (.ref s.heap.objs.size) (.ref a) = false := by
    show (s.heap.objs.size == a) = false
    have : ¬ s.heap.objs.size = a := Nat.ne_of_gt ha
    simpa using this
  have h2 : (Value.type "set" == Value.type "list") = false := by decide
  have h3 : (Value.type "set" == Value.type "tuple") = false := by decide
  simp only [h1, h2, h3, Bool.or_false, Bool.false_eq_true, if_false]
  refine wpAny_bind (iter_tx S1 hz fun hq I d B => ?_)
  have ho1 := B.keep _ _ (Heap.get?_push_of_some { cls := .type "list", data := .seq ([] : List Value).toArray } ho)
  refine wpAny_bind (wpAny_holding ?_)
  unfold Builtin.List.listLengthHint
  refine wpAny_bind (wpAny_specialOf (T := "set") (v := .ref a) ⟨o, ho1, hex.1⟩ set_len_slot ?_)
  wp_delta
  refine wpAny_bind (wpAny_isInstance (T := "set") (v := .ref a) (b := true) ⟨o, ho1, hex.1⟩ (by rw [isSubtype_type]; kernel_rfl) ?_)
  show wpAny _ A.in1 (typeOf (Value.ref a) >>= _) _ _ _
  refine wpAny_bind (wpAny_typeOf (T := "set") (v := .ref a) ⟨o, ho1, hex.1⟩ ?_)
  refine wpAny_pure ?_
  split
  · refine wpAny_bind (wpAny_rule ?_)
    obtain ⟨keepB, sizeB, itB, ord, fp, St, hperm, hfp, hst0, hW⟩ := B
    rw [Heap.size_push] at sizeB itB hfp
    have hS : hq.get? s.heap.objs.size = some { cls := .type "list", data := .seq ([] : List Value).toArray } := keepB _ _ (Heap.get?_push_size _ rfl)
    unfold Builtin.List.listTouch
    refine wpAny_bind (wpAny_bind (listUpdate_at hS rfl ?_ (by size_fits) (by size_fits)))
    have hS1 := get?_update_seq (n := 0) hS (·.push .none)
    refine listUpdate_at hS1 rfl ?_ (by simp; exact Nat.le_trans (by decide : 1 ≤ 2) (by decide)) (by simp)
    have hS2 := get?_update_seq hS1 (·.pop)
    have sb : Heap.SameBut s.heap.objs.size hq ((hq.update s.heap.objs.size (Obj.mapSeq (·.push .none))).update s.heap.objs.size (Obj.mapSeq (·.pop))) := (Heap.SameBut.update ..).trans (Heap.SameBut.update ..)
    generalize (hq.update s.heap.objs.size (Obj.mapSeq (·.push .none))).update s.heap.objs.size (Obj.mapSeq (·.pop)) = H2 at *
    have hSf : s.heap.objs.size ∉ fp := fun hm => by
      rcases hfp _ hm with z | z
      · exact absurd z (Nat.ne_of_gt ha)
      · omega
    have hst : St 0 H2 := (hW A.in1 hh).frame 0 hq H2 hst0 fun b hb o e => sb.extBut b o (fun z => hSf (z ▸ hb)) e
    refine wpAny_pure ⟨plainId_quiet PySem.F.plain_extend_loop _, codeAny_extend_loopS (hW A.in1 hh).toS hn _ hSf _ es.size 0 _ _ _ rfl (Nat.zero_le _) hst hS2 (ItemsOf.nil _) fun s' acc' c' hm hS' hacc => ?_⟩
    show wpAny _ A (load s.heap.objs.size >>= _) _ _ s'
    refine wpAny_bind (wpAny_load hS' ?_)
    refine wpAny_pure (hQ s' acc' ord (fun b ob e => hm.heap b ob (fun hb => ?_) (sb.extBut _ _ (Nat.ne_of_lt (Heap.lt_size e)) (keepB _ _ (Heap.get?_push_of_some _ e)))) (Nat.le_of_lt (Heap.lt_size hS')) hm.gens hm.os hperm hacc)
    have hlt := Heap.lt_size e
    rcases List.mem_cons.mp hb with h | h
    · exact absurd hlt (h ▸ Nat.lt_irrefl _)
    · rw [List.mem_singleton.mp h] at hlt; exact absurd hlt (Nat.not_lt.mpr (Nat.le_trans (Nat.le_succ _) itB))
  · rename_i hz
    exact absurd (by decide +kernel) hz
theorem strs_of_ents {es : List (Int × Value)} {ss : List Str} (h : TxE prog w es ss) : ∀ {l : List (Int × Value)}, (∀ e ∈ l, e ∈ es) → StrsAre (l.map (·.2)) (l.map keyT)
  | [], _ => .nil
  | e :: l, hl => by
    obtain ⟨t, z⟩ := h.is (hl e List.mem_cons_self)
    rw [List.map_cons, List.map_cons, z]
    exact .cons _ _ (strs_of_ents h fun x hx => hl x (List.mem_cons_of_mem _ hx))
set_option maxHeartbeats 2000000 in
/-- sorted(S), S a set of texts -/
theorem sorted_tx {a : Addr} {ss : List Str} {Q : Value → Shared → Prop} (hh : A.handled = none) (S : SetTx prog w s.heap a ss) (hz : ss.length < 64)
    (h : ∀ (s' : Shared) (D : Addr) (out : Array Value) (c : Nat) (ss' : List Str), (∀ b o, s.heap.get? b = some o → s'.heap.get? b = some o) → s'.gens = s.gens → s'.os = s.os → s.heap.objs.size ≤ D → s'.heap.get? D = some (seqObj "list" out c) →
      StrsAre out.toList ss' → ss'.Perm ss → sortedS ss' = true → Q (.ref D) s') : wpAny (model prog w) A (call (.builtin "sorted") [.ref a]) Q E s := by
  obtain ⟨o, es, ep, t, ho, hex, hd, hf, hl, hp, hE⟩ := S
  have hn : es.size = ss.length := by rw [← hE.2.1.length_eq, List.length_map, Array.length_toList]
  have S1 : TxA prog w s.heap a es ep t := ⟨⟨o, ho, hex, hd⟩, hf, hl, hp⟩
  refine Calls.call_function_entry kind_sorted plain_sorted entry_sorted (args_sorted1 _) ?_
  unfold Builtin.«sorted»
  refine wpAny_bind (m := checkCount "sorted" 1 1 _) (wpAny_pure ?_)
  refine wpAny_bind (collect_tx hh S1 (by omega) fun s1 acc ord keep hsz hg hos hperm hacc => ?_)
  have hord : ord.length = es.size := by simpa using hperm.length_eq
  have eacc : acc.toList = ord.map (·.2) := by
    refine items_list (f := fun _ => none) ?_
    rw [hord]
    exact hacc
  have hI : StrsAre acc.toList (ord.map keyT) := by
    rw [eacc]
    exact strs_of_ents hE fun e he => hperm.subset he
  have hpp : (ord.map keyT).Perm ss := (hperm.map keyT).trans hE.2.1
  have hz' : acc.toList.length < 64 := by rw [eacc, List.length_map]; omega
  refine wpAny_bind (wpAny_newList ?_ (Nat.le_trans (Nat.le_of_lt hz') (by decide)))
  have hoL : (s1.heap.push (seqObj "list" acc.toList.toArray 0)).get? s1.heap.objs.size = some (seqObj "list" acc.toList.toArray 0) := Heap.get?_push_size _ rfl
  show wpAny _ _ _ _ _ { s1 with heap := s1.heap.push (seqObj "list" acc.toList.toArray 0) }
  refine wpAny_bind (wpAny_holding (wpAny_call_entry slot_list_sort ⟨_, hoL, rfl⟩ entry_list_sort (list_sort_treeK strKind_oneLt hoL hI.keysOf (fun v₁ v₂ rest e => keyKind_strs (by rw [← e]; exact hI)) hz' fun st' hp' hs' => ⟨_, rfl, ?_⟩) (args_list_sort _)))
  obtain ⟨ss', g1, g2, g3⟩ := sorted_out_str hI hp' hs'
  have hlt : s1.heap.objs.size < (s1.heap.push (seqObj "list" acc.toList.toArray 0)).objs.size := Heap.lt_size hoL
  obtain ⟨c, hc⟩ := sortedHeap_at (out := (arrOf st').map (·.2)) hoL
  refine wpAny_pure ⟨_, rfl, h _ _ _ c ss' (fun b o e => ?_) hg hos hsz hc g1 (g2.trans hpp) g3⟩
  have hb := Heap.lt_size (keep b o e)
  show (sortedHeap _ _ _ _).get? b = some o
  rw [sortedHeap_old (Nat.ne_of_lt hb) (Nat.lt_trans hb hlt)]
  exact Heap.get?_push_of_some _ (keep b o e)
end
end L2

set_option Elab.async false
set_option linter.all false
set_option maxRecDepth 100000
/-! sets of texts, f-strings of many parts, isinstance of own classes -/
namespace L2
open PySem PySem.Spec PyProof.Rows
theorem Inv.drew {X : Cx} {pins : List (Addr × Obj)} {σ : St} {H : Hp} {s s' : Shared} (I : Inv X pins σ H s) (h1 : s'.heap = s.heap) (h2 : s'.gens = s.gens) (h3 : s'.os = s.os) : Inv X pins σ H s' := by
  obtain ⟨h', g', d', t', o'⟩ := s'
  obtain ⟨h, g, d, t, o⟩ := s
  dsimp only at h1 h2 h3
  subst h1 h2 h3
  exact ⟨I.ok, I.os, I.bare, I.base, I.loc, I.cell, I.free, I.freeC, I.pin, I.hok, I.len⟩
theorem strs_of_vals2 : ∀ {ss : List Str} {us : List Value}, Vals (ss.map V.str) us → StrsAre us ss
  | [], _, h => by cases h; exact .nil
  | x :: ss, _, h => by
    cases h with
    | cons a b =>
      obtain ⟨t, rfl⟩ := a
      exact .cons _ _ (strs_of_vals2 b)
theorem vals_of_strs : ∀ {us : List Value} {ss : List Str}, StrsAre us ss → Vals (ss.map V.str) us
  | _, _, .nil => .nil
  | _, _, .cons y t h => .cons ⟨t, rfl⟩ (vals_of_strs h)
def SetTO (P : Program) (w : World) (a : Addr) (ss : List Str) : HO := .ext fun h => SetTx P w h a ss
section
variable {X : Cx}
theorem call_setT (hc : X.calm = true) : CallR X (.type "set") (fun xs H Q => ∃ (l : Addr) (ss : List Str), xs = [.ref l] ∧ SqL X.K H l (ss.map V.str) ∧ ss.length ≤ 60 ∧ ∀ a, H a = none → Q (.ref a) (upd H a (SetTO X.prog X.w a (foldT ss)))) := by
  intro pins s σ H xs us Q I r h
  obtain ⟨l, ss, rfl, hS, h2, q⟩ := h
  obtain ⟨u, rfl, rx⟩ := vals1 r
  cases rx
  obtain ⟨its, rv, pl, hz⟩ := I.list hS
  refine call_set_tx (ns := ss) (I.ok.hd hc) pl.isList (by simpa using strs_of_vals2 rv) (by unfold scanBound; omega) fun h' tk S keep => ?_
  have hk : ∀ b o, s.heap.get? b = some o → h'.get? b = some o := fun b o e => keep b o (Heap.lt_size e) e
  refine ⟨.ref s.heap.objs.size, _, I.laid (t' := tk) (a := s.heap.objs.size) (o := SetTO X.prog X.w s.heap.objs.size (foldT ss)) hk (Nat.le_refl _) ?_, rfl, q _ (I.hok.fresh (Nat.le_refl _))⟩
  obtain ⟨o, es, ep, t, ho, hr⟩ := id S
  exact ⟨S, ⟨o, ho⟩, fun h1 h2 S1 k => S1.keep k⟩
theorem call_sortsetT (hc : X.calm = true) : CallR X (.builtin "sorted") (fun xs H Q => ∃ (a : Addr) (ss : List Str), xs = [.ref a] ∧ H a = some (SetTO X.prog X.w a ss) ∧ ss.length ≤ 60 ∧ ∀ p ss', H p = none → ss'.Perm ss → sortedS ss' = true → Q (.ref p) (upd H p (.lst (ss'.map V.str)))) := by
  intro pins s σ H xs us Q I r h
  obtain ⟨a, ss, rfl, hS, h2, q⟩ := h
  obtain ⟨u, rfl, rx⟩ := vals1 r
  cases rx
  obtain ⟨S, _, _⟩ := (show ObjOk X.prog X.w H s.heap a (SetTO X.prog X.w a ss) from I.hok a _ hS)
  refine sorted_tx (I.ok.hd hc) S (by omega) fun s' D out c ss' keep hg hos hD hout hI hp hs => ?_
  have I1 : Inv X pins σ (upd H D (.lst (ss'.map V.str))) { s with heap := s'.heap, toks := s'.toks } := I.laid (t' := s'.toks) (a := D) (o := .lst (ss'.map V.str)) keep hD (by
    refine ⟨?_, out.toList, c, vals_of_strs hI, ?_⟩
    · rw [List.length_map, hp.length_eq]
      exact Nat.le_trans h2 (by decide)
    · have := hout
      simpa [seqObj] using this)
  exact ⟨.ref D, _, I1.drew rfl hg hos, rfl, q _ ss' (I.hok.fresh hD) hp hs⟩
/-- a list put together from its items, each an isinstance of an own class: what the rule asks -/
theorem isi_own {c : Value} {b : Bool} {x : Str} : CallR X (.builtin "isinstance") (fun xs H Q => ∃ (v y : V) (t c : Value) (b : Bool), xs = [v, y] ∧ TyOf X.K H v t ∧ (∀ u, RelV y u → u = c) ∧ PySem.W.kitOne X.K t c = some b ∧ Q (.bl b) H) := by
  intro pins s σ H xs us Q I r h
  obtain ⟨v, y, t, c, b, rfl, ty, hy, e, q⟩ := h
  cases r with
  | cons r1 r2 =>
    cases r2 with
    | cons r2 r3 =>
      cases r3
      rw [hy _ r2]
      exact isinst_ok I r1 ty e fun tk => ⟨.bl b, H, I.tok _, rfl, q⟩
/-- the parts of an f-string, one behind the other -/
abbrev TJ := Str → St → Hp → (Str → Hp → Prop) → Prop
def PJ (X : Cx) (es : List Expr) (t : TJ) : Prop := ∀ (pins : List (Addr × Obj)) (s : Shared) (σ : St) (H : Hp) (acc : Str) (Q : VK), Inv X pins σ H s → t acc σ H (fun z H1 => z.length ≤ sizeLine ∧ Q (.str z) H1) →
  wpAny (model X.prog X.w) X.A (joinParts acc (evalEach es X.env)) (fun u s1 => ∃ x H1, Inv X pins σ H1 s1 ∧ RelV x u ∧ Q x H1) X.xe s
theorem pj_nil : PJ X [] (fun acc _ H Q => Q acc H) := by
  intro pins s σ H acc Q I h
  obtain ⟨hz, q⟩ := h
  exact joinParts_nilE (joinParts_nil ⟨.str _, H, I.tok _, ⟨_, rfl⟩, q⟩ hz)
theorem pj_lit {a : Str} {j : Nat} {p : Pos} {es : List Expr} {t : TJ} (h : PJ X es t) (ha : a.length ≤ sizeLine := by decide +kernel) : PJ X (.Constant (.str a) j p :: es) (fun acc σ H Q => (acc ++ a).length ≤ sizeLine ∧ t (acc ++ a) σ H Q) := by
  intro pins s σ H acc Q I hh
  obtain ⟨hz, q⟩ := hh
  refine joinParts_consE (joinParts_cons (Calls.Constant_str ?_))
  dsimp only
  exact ⟨hz, h pins _ σ H _ Q (I.tok _) q⟩
theorem pj_val {e : Expr} {te : TE} {p : Pos} {es : List Expr} {t : TJ} (he : PE X e te) (h : PJ X es t) : PJ X (.FormattedValue e (-1) none p :: es)
    (fun acc σ H Q => te σ H fun x H1 => (∃ i : Int, x = .int i ∧ i.natAbs.log2 < 1920 ∧ (acc ++ (toString i : Str)).length ≤ sizeLine ∧ t (acc ++ (toString i : Str)) σ H1 Q) ∨ (∃ z : Str, x = .str z ∧ z.length ≤ sizeLine ∧ (acc ++ z).length ≤ sizeLine ∧ t (acc ++ z) σ H1 Q)) := by
  intro pins s σ H acc Q I hh
  refine joinParts_consE (joinParts_cons (FormattedValue_plain (thn (he pins _ σ H _ I hh) fun u s1 ⟨x, H1, I1, r1, hx⟩ => ?_)))
  rcases hx with ⟨i, rfl, hi, hz, q⟩ | ⟨z, rfl, hi, hz, q⟩
  · obtain ⟨t', rfl⟩ := r1
    refine formatField_int_small hi ?_
    exact ⟨hz, h pins _ σ H1 _ Q (I1.tok _) q⟩
  · obtain ⟨t', rfl⟩ := r1
    refine formatField_str (fun t2 tk => ?_) hi
    exact ⟨hz, h pins _ σ H1 _ Q (I1.tok _) q⟩
theorem pe_fstr {v1 v2 : Expr} {es : List Expr} {t : TJ} {p : Pos} (h : PJ X (v1 :: v2 :: es) t) : PE X (.JoinedStr (v1 :: v2 :: es) p) (fun σ H Q => t Str.empty σ H fun z H1 => z.length ≤ sizeLine ∧ Q (.str z) H1) := by
  intro pins s σ H Q I hh
  exact JoinedStr_many (h pins s σ H Str.empty Q I hh)
end
end L2

set_option Elab.async false
set_option linter.all false
set_option maxRecDepth 100000
namespace L3
open PySem L2
def top (i : Nat) : Stmt := PySem.Challenge.pw_rowsbeneath_k17_steps_told.main.body.getD i (.Pass ⟨0, 0, 0, 0⟩)
abbrev sWhole : Stmt := top 5
abbrev sWithin : Stmt := top 6
abbrev sOps : Stmt := top 18
abbrev sHeaded : Stmt := top 24
abbrev sInner : Stmt := top 25
abbrev sField : Stmt := top 26
abbrev sSel : Stmt := top 27
abbrev sSource : Stmt := top 28
abbrev sIsStep : Stmt := top 29
abbrev sStepOf : Stmt := top 42
abbrev sCell : Stmt := top 44
abbrev sStream : Stmt := top 45
abbrev sTake : Stmt := top 46
abbrev sLSource : Stmt := top 48
abbrev sLSel : Stmt := top 47
abbrev sLStep : Stmt := top 49
abbrev sLRight : Stmt := top 58
abbrev sLaw : Stmt := top 59
abbrev sSoW : Stmt := top 39
abbrev sPlW : Stmt := top 40
abbrev sMaW : Stmt := top 41
abbrev sPartT : Stmt := top 50
abbrev sStepT : Stmt := top 51
abbrev sLReads : Stmt := top 52
abbrev sLWrites : Stmt := top 53
abbrev sLSorts : Stmt := top 54
abbrev sByClass : Stmt := top 55
abbrev sLFields : Stmt := top 56
abbrev sIsList : Stmt := top 57
/-- a def of the text, as its callers want it -/
def Fn (P : Program) (w : World) (K : PySem.W.Frag) (mg : Str → Option Value) (base : Heap) (x : Str) (k : Nat) (ps : List Str) (sp : Sp) : Prop :=
  ∃ (f : Addr) (fd : FuncData), mg x = some (.ref f) ∧ PySem.W.keepIn K (.ref f) = true ∧ Binds K fd ps [] ∧ FnOk P w K mg base CX0 k f fd ps sp
def tFn (sp : Sp) (t : TA) : TE := fun σ H Q => t σ H fun vs H1 => sp vs H1 Q E0
theorem pe_fn {X : Cx} {x : Str} {k : Nat} {ps : List Str} {sp : Sp} {p pos : Pos} {e : Expr} {es : List Expr} {t : TA} (h : Fn X.prog X.w X.K X.mg X.base x k ps sp) (hr : Room k X.A) (hg : Gl X x) (ha : PA X (e :: es) t) (hdb : (x == ("__debug__" : Str)) = false := by decide)
    (he : starEach (e :: es) X.env = (false, eval e X.env) :: starEach es X.env := by rfl) (hpl : (backTo pos (starEach es X.env)).any (·.1) = false := by rfl) : PE X (.Call (.Name x p) (e :: es) [] pos) (tFn sp t) := by
  obtain ⟨f, fd, hm, hk, hb, F⟩ := h
  intro pins s σ H Q I q
  have ha' : PA X (e :: es) t := ha
  refine pe_call (dvs := []) (E := E0) F hr hg hm hk hb .nil pass0 ha' hdb he hpl pins s σ H Q I ?_
  show t σ H fun vs H1 => sp (vs ++ []) H1 Q E0
  have e2 : (fun vs H1 => sp (vs ++ []) H1 Q E0) = fun vs H1 => sp vs H1 Q E0 := by
    funext vs H1
    rw [List.append_nil]
  rw [e2]
  exact q
theorem pe_fn0 {X : Cx} {x : Str} {k : Nat} {sp : Sp} {p pos : Pos} (h : Fn X.prog X.w X.K X.mg X.base x k [] sp) (hr : Room k X.A) (hg : Gl X x) (hdb : (x == ("__debug__" : Str)) = false := by decide) : PE X (.Call (.Name x p) [] [] pos) (fun _ H Q => sp [] H Q E0) := by
  obtain ⟨f, fd, hm, hk, hb, F⟩ := h
  intro pins s σ H Q I q
  exact pe_call0 (dvs := []) (E := E0) F hr hg hm hk hb .nil pass0 hdb pins s σ H Q I q
theorem same_new {H : Hp} {p : Addr} {o : HO} (h : H p = none) : Same H (upd H p o) := fun b u e => by rw [upd_ne (ne_of_none e h)]; exact e
theorem same_mut {H H2 : Hp} {p : Addr} {o : HO} (hp : H p = none) (s : Same H H2) : Same H (upd H2 p o) := fun b u e => by rw [upd_ne (ne_of_none e hp)]; exact s b u e
theorem iteB {A B : Prop} {b : Bool} (e : b = false) (h : B) : if b = true then A else B := by rw [e]; exact iteF h
theorem iteA {A B : Prop} {b : Bool} (e : b = true) (h : A) : if b = true then A else B := by rw [e]; exact iteT h
theorem S_of (z : Str) : z = S z.cps.toList := by
  show z = ⟨z.cps.toList.toArray⟩
  simp
theorem S_app (a b : List Nat) : S a ++ S b = S (a ++ b) := by
  show (⟨(S a).cps ++ (S b).cps⟩ : Str) = ⟨(a ++ b).toArray⟩
  congr 1
  simp [S]
theorem boot_isi : bootBuiltins "isinstance" = some (.builtin "isinstance") := by decide +kernel
theorem boot_list' : bootBuiltins "list" = some (.type "list") := by decide +kernel
theorem boot_str' : bootBuiltins "str" = some (.type "str") := by decide +kernel
theorem boot_bool' : bootBuiltins "bool" = some (.type "bool") := by decide +kernel
theorem boot_tuple' : bootBuiltins "tuple" = some (.type "tuple") := by decide +kernel
structure Bl (mg : Str → Option Value) : Prop where
  len : mg "len" = none
  int : mg "int" = none
  max : mg "max" = none
  min : mg "min" = none
  range : mg "range" = none
  isinstance : mg "isinstance" = none
  list : mg "list" = none
  str : mg "str" = none
  bool : mg "bool" = none
  tuple : mg "tuple" = none
  all : mg "all" = none
/-- the stream's list -/
def strm (x y z : Int) : HO := .lst [.int x, .int y, .int z]
def Strm (H : Hp) (p : Addr) : Prop := ∃ x y z : Int, H p = some (strm x y z)
def But (p : Addr) (H H' : Hp) : Prop := ∀ b o, H b = some o → b ≠ p → H' b = some o
theorem But.refl (p : Addr) (H : Hp) : But p H H := fun _ _ e _ => e
theorem But.trans {p : Addr} {H H1 H2 : Hp} (a : But p H H1) (b : But p H1 H2) : But p H H2 := fun c o e n => b c o (a c o e n) n
theorem But.same {p : Addr} {H H1 H2 : Hp} (a : But p H H1) (b : Same H1 H2) : But p H H2 := fun c o e n => b c o (a c o e n)
theorem but_of {p : Addr} {H H1 : Hp} (b : Same H H1) : But p H H1 := fun c o e _ => b c o e
theorem Strm.same {p : Addr} {H H1 : Hp} (a : Strm H p) (b : Same H H1) : Strm H1 p := let ⟨x, y, z, e⟩ := a; ⟨x, y, z, b _ _ e⟩
theorem Strm.ne {p q : Addr} {H : Hp} (a : Strm H p) (h : H q = none) : p ≠ q := let ⟨_, _, _, e⟩ := a; ne_of_none e h
/-- an object that is no stream's list stands beside it -/
theorem Strm.apart {p q : Addr} {H H1 : Hp} {o : HO} (a : Strm H p) (h : H q = none) (b : But p H H1) (e : H1 q = some o) : p ≠ q := a.ne h
def spCell (K : PySem.W.Frag) : Sp := fun vs H Q _ => ∃ (a : Addr) (ns : List Int) (k : Int), vs = [.ref a, .int k] ∧ SqL K H a (ns.map V.int) ∧ 0 ≤ k ∧ ∀ c : Int, Q (.int c) H
def spStream : Sp := fun vs H Q _ => ∃ c : Int, vs = [.int c] ∧ ∀ (p : Addr) H', H p = none → Same H H' → Strm H' p → Q (.ref p) H'
def spTake : Sp := fun vs H Q _ => ∃ (p : Addr) (m : Nat), vs = [.ref p, .int m] ∧ Strm H p ∧ 0 < m ∧ m < 18446744073709551616 ∧ ∀ (r : Nat) H', r < m → Strm H' p → But p H H' → Q (.int r) H'
section
variable {P : Program} {w : World} {K : PySem.W.Frag} {mg : Str → Option Value} {base : Heap}
theorem scCell : FnScope ["_law_script", "_law_k"] ["_law_script", "_law_k"] (defScope sCell) := ⟨rfl, rfl, rfl, by decide +kernel, rfl, by decide +kernel, by decide +kernel⟩
theorem ok_cell {f : Addr} {fd : FuncData} (F : Fun K "_law_cell" "_law_cell" sCell f fd) (T : Bl mg) : FnOk P w K mg base CX0 1 f fd ["_law_script", "_law_k"] (spCell K) := by
  refine F.ok scCell (fun vs H Q E h => ?_) (fun cdv A outer s H vs Q E hr h => ?_)
  · obtain ⟨a, ns, k, rfl, _⟩ := h
    rfl
  · obtain ⟨a, ns, k, rfl, hS, h0, q⟩ := h
    refine ⟨_, pss_cons (ps_if (pt_cmpR op_lt (pv 1) (pe_callB call_len_seq (by rfl) T.len PySem.boot_len (pa_cons (pv 0) pa_nil)) (nomark _)) (pss_one (ps_ret (pe_ix ix_list (pv 0) (pv 1) (fun _ _ => rfl)))) pss_nil)
      (pss_one (ps_ret (pe_op op_add (pe_op op_mul pe_int (pv 1)) pe_int))), ?_⟩
    refine ⟨_, rfl, _, rfl, a, _, rfl, .inl hS, _, _, rfl, rfl, _, rfl, ?_⟩
    refine ite2 (fun h => ?_) (fun h => ?_)
    · have hl : k < ((ns.map V.int).length : Int) := of_decide_eq_true h
      rw [List.length_map] at hl
      obtain ⟨n, rfl⟩ : ∃ n : Nat, k = n := ⟨k.toNat, by omega⟩
      have hn : n < ns.length := by omega
      refine ⟨_, rfl, _, rfl, a, _, _, _, rfl, rfl, hS, atI_nat (v := .int ns[n]) (by simp [hn]), q _⟩
    · exact ⟨_, rfl, _, _, rfl, rfl, .inl ⟨by decide, by decide⟩, _, _, rfl, rfl, q _⟩
theorem scStream : FnScope ["_law_cell_here"] ["_law_cell_here"] (defScope sStream) := ⟨rfl, rfl, rfl, by decide +kernel, rfl, by decide +kernel, by decide +kernel⟩
theorem ok_stream {f : Addr} {fd : FuncData} (F : Fun K "_law_stream" "_law_stream" sStream f fd) (T : Bl mg) : FnOk P w K mg base CX0 1 f fd ["_law_cell_here"] spStream := by
  refine F.ok scStream (fun vs H Q E h => ?_) (fun cdv A outer s H vs Q E hr h => ?_)
  · obtain ⟨c, rfl, _⟩ := h
    rfl
  · obtain ⟨c, rfl, q⟩ := h
    refine ⟨_, pss_one (ps_ret (pe_lst (pa_cons (pe_op op_mul (pv 0) (pe_callTy call_int1 (by rfl) T.int PyProof.Rows.boot_int (pa_cons (pe_cmpR op_ge (pv 0) (pe_op op_pow pe_int pe_int) (nomark _)) pa_nil)))
      (pa_cons (pe_op op_mod (pv 0) pe_int) (pa_cons pe_int pa_nil))))), ?_⟩
    refine ⟨_, rfl, _, rfl, _, _, rfl, rfl, ⟨by decide, by decide, by decide⟩, _, _, rfl, rfl, .inr ⟨_, rfl, ?_⟩⟩
    refine ⟨_, _, rfl, rfl, .inr (by split <;> decide), _, rfl, _, _, rfl, rfl, (by show (0 : Int) < 2147483629; decide), (by show 3 ≤ sizeLine; decide), fun l hl => ?_⟩
    exact q l _ hl (same_new hl) ⟨_, _, _, upd_same⟩
theorem scTake : FnScope ["_law_stream_here", "_law_many", "_law_digit", "_law_number"] ["_law_stream_here", "_law_many"] (defScope sTake) := ⟨rfl, rfl, rfl, by decide +kernel, rfl, by decide +kernel, by decide +kernel⟩
theorem sq_bound {n m : Int} (hm : 0 < m) (h : m < 2 ^ 64) : -(2 ^ 64) < n % m ∧ n % m < 2 ^ 64 := by
  have := Int.emod_nonneg n (show m ≠ 0 by omega)
  have := Int.emod_lt_of_pos n hm
  omega
theorem ok_take {f : Addr} {fd : FuncData} (F : Fun K "_law_take" "_law_take" sTake f fd) : FnOk P w K mg base CX0 1 f fd ["_law_stream_here", "_law_many"] spTake := by
  refine F.ok scTake (fun vs H Q E h => ?_) (fun cdv A outer s H vs Q E hr h => ?_)
  · obtain ⟨p, m, rfl, _⟩ := h
    rfl
  · obtain ⟨p, m, rfl, ⟨x, y, z, hp⟩, m0, m1, q⟩ := h
    have fin : ∀ (e x' y' z' : Int) H1, 0 ≤ e → e < m → But p H H1 → Q (.int e) (upd H1 p (strm x' y' z')) := fun e x' y' z' H1 h0 h1 b => by
      have := q e.toNat (upd H1 p (strm x' y' z')) (by omega) ⟨_, _, _, upd_same⟩ (fun c o e n => by rw [upd_ne n]; exact b c o e n)
      rw [Int.toNat_of_nonneg h0] at this
      exact this
    have b1 : ∀ o, But p H (upd H p o) := fun o c u e n => by rw [upd_ne n]; exact e
    refine ⟨_, pss_cons (ps_if (pt_cmpR op_gt (pe_ix ix_list (pv 0) pe_int (fun _ _ => rfl)) pe_int (nomark _))
        (pss_cons (ps_set (i := 2) scTake.nd rfl (Or.inl rfl) (pe_op op_mod (pe_ix ix_list (pv 0) pe_int (fun _ _ => rfl)) (pv 1)))
        (pss_cons (ps_asg (pe_op op_fdivB (pe_ix ix_list (pv 0) pe_int (fun _ _ => rfl)) (pv 1)) (pg_sub (pv 0) pe_int set_list))
        (pss_one (ps_ret (pv 2))))) pss_nil)
      (pss_cons (ps_asg (pe_op op_add (pe_ix ix_list (pv 0) pe_int (fun _ _ => rfl)) pe_int) (pg_sub (pv 0) pe_int set_list))
      (pss_cons (ps_set (i := 3) scTake.nd rfl (Or.inl rfl) (pe_op op_mod (pe_op op_add (pe_op op_mul (pe_op op_add (pe_ix ix_list (pv 0) pe_int (fun _ _ => rfl)) (pe_op op_mul pe_int (pe_ix ix_list (pv 0) pe_int (fun _ _ => rfl)))) pe_int) pe_int) pe_int))
      (pss_cons (ps_set (i := 3) scTake.nd rfl (Or.inl rfl) (pe_op op_mod (pe_op op_mul (pv 3) (pv 3)) pe_int))
      (pss_one (ps_ret (pe_op op_mod (pe_op op_fdiv (pe_op op_mod (pe_op op_add (pe_op op_mul (pv 3) (pv 3)) (pe_op op_mul pe_int (pe_ix ix_list (pv 0) pe_int (fun _ _ => rfl)))) pe_int) pe_int) (pv 1))))))), ?_⟩
    refine ⟨_, rfl, p, _, _, _, rfl, rfl, SqL.of hp, rfl, _, _, rfl, rfl, _, rfl, ?_⟩
    refine ite2 (fun h => ?_) (fun h => ?_)
    · refine ⟨_, rfl, p, _, _, _, rfl, rfl, SqL.of hp, rfl, _, rfl, _, _, rfl, rfl, (by show (0 : Int) < (m : Int); omega), ?_⟩
      refine ⟨_, rfl, p, _, _, _, rfl, rfl, SqL.of hp, rfl, _, rfl, _, _, rfl, rfl, ⟨by show (0 : Int) < (m : Int); omega, by show (m : Int) < 18446744073709551616; omega⟩, ?_⟩
      refine ⟨_, rfl, p, _, _, _, rfl, rfl, hp, rfl, ?_⟩
      refine ⟨_, rfl, ?_⟩
      exact fin _ _ _ _ _ (Int.emod_nonneg _ (by omega)) (Int.emod_lt_of_pos _ (by omega)) (But.refl _ _)
    · refine ⟨_, rfl, p, _, _, _, rfl, rfl, SqL.of hp, rfl, _, _, rfl, rfl, ?_⟩
      refine ⟨_, rfl, p, _, _, _, rfl, rfl, hp, rfl, ?_⟩
      refine ⟨_, rfl, p, _, _, _, rfl, rfl, SqL.of upd_same, rfl, _, rfl, p, _, _, _, rfl, rfl, SqL.of upd_same, rfl, _, _, rfl, rfl, .inl ⟨by decide, by decide⟩, _, _, rfl, rfl, _, _, rfl, rfl, .inr ⟨by decide, by decide⟩, _, _, rfl, rfl, _, _, rfl, rfl, (by show (0 : Int) < 2147483647; decide), ?_⟩
      refine ⟨_, rfl, _, rfl, _, _, rfl, rfl, .inl (sq_bound (by decide) (by decide)), _, _, rfl, rfl, (by show (0 : Int) < 2147483629; decide), ?_⟩
      refine ⟨_, rfl, _, rfl, _, _, rfl, rfl, .inl (sq_bound (by decide) (by decide)), _, rfl, p, _, _, _, rfl, rfl, SqL.of upd_same, rfl, _, _, rfl, rfl, .inl ⟨by decide, by decide⟩, _, _, rfl, rfl, _, _, rfl, rfl, (by show (0 : Int) < 2147483587; decide), _, _, rfl, rfl, ⟨by decide, by decide⟩, _, rfl, _, _, rfl, rfl, (by show (0 : Int) < (m : Int); omega), ?_⟩
      exact fin _ _ _ _ _ (Int.emod_nonneg _ (by omega)) (Int.emod_lt_of_pos _ (by omega)) (But.refl _ _)
end
end L3

set_option Elab.async false
set_option linter.all false
set_option maxRecDepth 100000
namespace L3
open PySem L2
theorem at0 (x : V) (ys : List V) : atI (x :: ys) 0 = some x := atI_nat (j := 0) rfl
theorem dint (a b : Int) : decide (V.int a = V.int b) = decide (a = b) := by
  by_cases h : a = b
  · subst h; simp
  · have : V.int a ≠ V.int b := fun z => h (V.int.inj z)
    simp [h, this]
theorem dstr (a b : Str) : decide (V.str a = V.str b) = decide (a = b) := by
  by_cases h : a = b
  · subst h; simp
  · have : V.str a ≠ V.str b := fun z => h (V.str.inj z)
    simp [h, this]
theorem hdT {us : List V} {m : Nat} {n : Str} (h : us.length + 1 = m) : (decide (us.length + 1 = m) && decide (n = n)) = true := by simp [h]
theorem hdF {us : List V} {m : Nat} {n w : Str} (h : decide (n = w) = false) : (decide (us.length + 1 = m) && decide (n = w)) = false := by rw [h, Bool.and_false]
/-- the numbers of the text's top -/
structure Cst (K : PySem.W.Frag) (mg : Str → Option Value) (w : World) (aO : Addr) (t1 t2 t3 t4 : Tok) (fs : Str → V) : Prop where
  inner : mg "HIGHEST_INNER" = some (.int 7 t1)
  word : mg "HIGHEST_WORD" = some (.int 16777215 t2)
  field : mg "HIGHEST_FIELD" = some (.int 2 t3)
  sel : mg "HIGHEST_SELECTED" = some (.int 3 t4)
  ops : mg "OPS" = some (.ref aO)
  dict : TopDict w K aO [("+", fs "+"), ("-", fs "-"), ("&", fs "&"), ("|", fs "|"), ("^", fs "^"), ("<<", fs "<<"), (">>", fs ">>"), ("<", fs "<"), ("=", fs "=")]
  lo : (aO == sysModules) = false
def opsL : List Str := ["+", "-", "&", "|", "^", "<<", ">>", "<", "="]
def spWhole : Sp := fun vs H Q _ => ∃ i : Int, vs = [.int i] ∧ Q (.bl true) H
def spWithin : Sp := fun vs H Q _ => ∃ i lo hi : Int, vs = [.int i, .int lo, .int hi] ∧ lo ≤ i ∧ i ≤ hi ∧ Q (.bl true) H
def spOps : Sp := fun vs H Q _ => vs = [] ∧ ∀ p, H p = none → Q (.ref p) (upd H p (.lst (opsL.map V.str)))
def spHeaded : Sp := fun vs H Q _ => ∃ (p : Addr) (n w : Str) (us : List V) (m : Nat), vs = [.ref p, .str w, .int m] ∧ H p = some (.tup (.str n :: us)) ∧ Q (.bl (decide (us.length + 1 = m) && decide (n = w))) H
def spTo (hi : Int) : Sp := fun vs H Q _ => ∃ i : Int, vs = [.int i] ∧ 0 ≤ i ∧ i ≤ hi ∧ Q (.bl true) H
def SelOK (H : Hp) (v : V) : Prop := ∃ (p : Addr) (n : Str) (i : Int), v = .ref p ∧ H p = some (.tup [.str n, .int i]) ∧ ((n = "is" ∧ 0 ≤ i ∧ i ≤ 3) ∨ (n = "by" ∧ 0 ≤ i ∧ i ≤ 2))
def SrcOK (H : Hp) (v : V) (o : Option Nat) : Prop := ∃ (p : Addr) (n : Str) (i : Int), v = .ref p ∧ H p = some (.tup [.str n, .int i]) ∧ ((n = "in" ∧ 0 ≤ i ∧ i ≤ 7 ∧ o = some i.toNat) ∨ (n = "number" ∧ 0 ≤ i ∧ i ≤ 16777215 ∧ o = none) ∨ (n = "field" ∧ 0 ≤ i ∧ i ≤ 2 ∧ o = none))
theorem SelOK.kt {H H' : Hp} (k : TupK H H') {v : V} (h : SelOK H v) : SelOK H' v := let ⟨p, n, i, a, b, c⟩ := h; ⟨p, n, i, a, k _ _ b, c⟩
theorem SrcOK.kt {H H' : Hp} (k : TupK H H') {v : V} {o : Option Nat} (h : SrcOK H v o) : SrcOK H' v o := let ⟨p, n, i, a, b, c⟩ := h; ⟨p, n, i, a, k _ _ b, c⟩
def spSel : Sp := fun vs H Q _ => ∃ v, vs = [v] ∧ SelOK H v ∧ Q (.bl true) H
def spSource : Sp := fun vs H Q _ => ∃ v o, vs = [v] ∧ SrcOK H v o ∧ Q (.bl true) H
/-- a step: its sort, the inner place that it changes, its sources' inner places -/
structure Md where
  kind : Nat
  to : Nat
  src : List (Option Nat)
inductive Tol (H : Hp) : V → Md → Prop
  | get {p : Addr} {n : Nat} {s : V} : H p = some (.tup [.str "get", .int n, s]) → n < 8 → SelOK H s → Tol H (.ref p) ⟨0, n, []⟩
  | ask {p : Addr} {n : Nat} {s : V} : H p = some (.tup [.str "ask", .int n, s]) → n < 8 → SelOK H s → Tol H (.ref p) ⟨1, n, []⟩
  | cell {p : Addr} {n : Nat} {s : V} {o : Option Nat} : H p = some (.tup [.str "cell", .int n, s]) → n < 8 → SrcOK H s o → Tol H (.ref p) ⟨2, n, [o]⟩
  | two {p : Addr} {n : Nat} {f : Str} {s s' : V} {o o' : Option Nat} : H p = some (.tup [.str "two", .int n, .str f, s, s']) → n < 8 → f ∈ opsL → SrcOK H s o → SrcOK H s' o' → Tol H (.ref p) ⟨3, n, [o, o']⟩
  | put {p : Addr} {s s' : V} {o : Option Nat} : H p = some (.tup [.str "put", s, s']) → SelOK H s → SrcOK H s' o → Tol H (.ref p) ⟨4, 0, [o]⟩
  | tell {p : Addr} {s s' : V} {o : Option Nat} : H p = some (.tup [.str "tell", s, s']) → SelOK H s → SrcOK H s' o → Tol H (.ref p) ⟨5, 0, [o]⟩
  | store {p : Addr} {s s' : V} {o o' : Option Nat} : H p = some (.tup [.str "store", s, s']) → SrcOK H s o → SrcOK H s' o' → Tol H (.ref p) ⟨6, 0, [o, o']⟩
theorem Tol.kt {H H' : Hp} (k : TupK H H') {v : V} {m : Md} (h : Tol H v m) : Tol H' v m := by
  cases h with
  | get a b c => exact .get (k _ _ a) b (c.kt k)
  | ask a b c => exact .ask (k _ _ a) b (c.kt k)
  | cell a b c => exact .cell (k _ _ a) b (c.kt k)
  | two a b c d e => exact .two (k _ _ a) b c (d.kt k) (e.kt k)
  | put a b c => exact .put (k _ _ a) (b.kt k) (c.kt k)
  | tell a b c => exact .tell (k _ _ a) (b.kt k) (c.kt k)
  | store a b c => exact .store (k _ _ a) (b.kt k) (c.kt k)
def spIsStep : Sp := fun vs H Q _ => ∃ v m, vs = [v] ∧ Tol H v m ∧ ∀ H', Same H H' → Q (.bl true) H'
section
variable {P : Program} {w : World} {K : PySem.W.Frag} {mg : Str → Option Value} {base : Heap} {aO : Addr} {t1 t2 t3 t4 : Tok} {fs : Str → V}
theorem scWhole : FnScope ["thing"] ["thing"] (defScope sWhole) := ⟨rfl, rfl, rfl, by decide +kernel, rfl, by decide +kernel, by decide +kernel⟩
theorem ok_whole {f : Addr} {fd : FuncData} (F : Fun K "is_whole" "is_whole" sWhole f fd) (T : Bl mg) : FnOk P w K mg base CX0 1 f fd ["thing"] spWhole := by
  refine F.ok scWhole (fun vs H Q E h => ?_) (fun cdv A outer s H vs Q E hr h => ?_)
  · obtain ⟨i, rfl, _⟩ := h
    rfl
  · obtain ⟨i, rfl, q⟩ := h
    refine ⟨_, pss_one (ps_ret (pe_and (pe_callB isi_int_int (by rfl) T.isinstance boot_isi (pa_cons (pv 0) (pa_cons (pe_ty (by rfl) T.int PyProof.Rows.boot_int) pa_nil))) (pe_one (pe_not (pe_callB isi_int_bool (by rfl) T.isinstance boot_isi (pa_cons (pv 0) (pa_cons (pe_ty (by rfl) T.bool boot_bool') pa_nil))))))), ?_⟩
    exact ⟨_, rfl, i, rfl, _, rfl, iteT ⟨_, rfl, i, rfl, _, rfl, q⟩⟩
theorem scWithin : FnScope ["thing", "low", "high"] ["thing", "low", "high"] (defScope sWithin) := ⟨rfl, rfl, rfl, by decide +kernel, rfl, by decide +kernel, by decide +kernel⟩
theorem ok_within {f : Addr} {fd : FuncData} (F : Fun K "is_within" "is_within" sWithin f fd) (WH : Fn P w K mg base "is_whole" 1 ["thing"] spWhole) : FnOk P w K mg base CX0 2 f fd ["thing", "low", "high"] spWithin := by
  refine F.ok scWithin (fun vs H Q E h => ?_) (fun cdv A outer s H vs Q E hr h => ?_)
  · obtain ⟨i, lo, hi, rfl, _⟩ := h
    rfl
  · obtain ⟨i, lo, hi, rfl, h1, h2, q⟩ := h
    refine ⟨_, pss_one (ps_ret (pe_and (pe_fn WH hr rfl (pa_cons (pv 0) pa_nil)) (pe_one (pe_chain op_le op_le (pv 1) (pv 0) (pv 2))))), ?_⟩
    refine ⟨_, rfl, i, rfl, _, rfl, iteT ?_⟩
    refine ⟨_, rfl, _, rfl, _, _, rfl, rfl, _, rfl, iteA (by simpa using h1) ?_⟩
    refine ⟨_, rfl, _, _, rfl, rfl, ?_⟩
    show Q (.bl (decide (i ≤ hi))) H
    rw [decide_eq_true h2]
    exact q
theorem scOps : FnScope [] [] (defScope sOps) := ⟨rfl, rfl, rfl, by decide +kernel, rfl, by decide +kernel, by decide +kernel⟩
theorem ok_ops {f : Addr} {fd : FuncData} (F : Fun K "ops_told" "ops_told" sOps f fd) (T : Bl mg) (C : Cst K mg w aO t1 t2 t3 t4 fs) : FnOk P w K mg base CX0 1 f fd [] spOps := by
  refine F.ok scOps (fun vs H Q E h => ?_) (fun cdv A outer s H vs Q E hr h => ?_)
  · obtain ⟨rfl, _⟩ := h
    rfl
  · obtain ⟨rfl, q⟩ := h
    refine ⟨_, pss_one (ps_ret (pe_callTy (call_list_top rfl) (by rfl) T.list boot_list' (pa_cons (pe_glob (v := .ref aO) rfl C.ops rfl) pa_nil))), ?_⟩
    exact ⟨aO, _, rfl, C.dict, (show opsL.Nodup from by decide +kernel), C.lo, (by show 9 ≤ 1000; decide), fun p hp => q p hp⟩
theorem scHeaded : FnScope ["thing", "word", "many"] ["thing", "word", "many"] (defScope sHeaded) := ⟨rfl, rfl, rfl, by decide +kernel, rfl, by decide +kernel, by decide +kernel⟩
theorem ok_headed {f : Addr} {fd : FuncData} (F : Fun K "is_headed" "is_headed" sHeaded f fd) (T : Bl mg) : FnOk P w K mg base CX0 1 f fd ["thing", "word", "many"] spHeaded := by
  refine F.ok scHeaded (fun vs H Q E h => ?_) (fun cdv A outer s H vs Q E hr h => ?_)
  · obtain ⟨p, n, w, us, m, rfl, _⟩ := h
    rfl
  · obtain ⟨p, n, w, us, m, rfl, hp, q⟩ := h
    refine ⟨_, pss_one (ps_ret (pe_and (pe_callB (isi_ty (T := "tuple")) (by rfl) T.isinstance boot_isi (pa_cons (pv 0) (pa_cons (pe_ty (by rfl) T.tuple boot_tuple') pa_nil)))
      (pe_and (pe_cmpR op_eq (pe_callB call_len_seq (by rfl) T.len PySem.boot_len (pa_cons (pv 0) pa_nil)) (pv 2) (nomark _)) (pe_one (pe_cmpR op_eq (pe_ix ix_tup (pv 0) pe_int (fun _ _ => rfl)) (pv 1) (nomark _)))))), ?_⟩
    refine ⟨_, rfl, .ref p, _, _, rfl, .tup hp, rfl, _, rfl, iteT ?_⟩
    refine ⟨_, rfl, p, _, rfl, .inr (SqT.of hp), _, rfl, rfl, _, rfl, ?_⟩
    rw [dint]
    have e : decide (((V.str n :: us).length : Int) = (m : Int)) = decide (us.length + 1 = m) := by
      rw [List.length_cons]
      by_cases h : us.length + 1 = m
      · subst h; simp
      · have : ¬ ((us.length + 1 : Nat) : Int) = (m : Int) := by omega
        simp only [h, this, decide_false]
    rw [e]
    refine ite2 (fun h => ?_) (fun h => ?_)
    · refine ⟨_, rfl, p, _, _, _, rfl, rfl, SqT.of hp, at0 _ _, _, rfl, rfl, ?_⟩
      rw [dstr]
      rw [h, Bool.true_and] at q
      exact q
    · rw [Bool.eq_false_iff.mpr h, Bool.false_and] at q
      exact q
theorem scInner : FnScope ["thing"] ["thing"] (defScope sInner) := ⟨rfl, rfl, rfl, by decide +kernel, rfl, by decide +kernel, by decide +kernel⟩
theorem ok_inner {f : Addr} {fd : FuncData} (F : Fun K "is_inner" "is_inner" sInner f fd) (C : Cst K mg w aO t1 t2 t3 t4 fs) (WI : Fn P w K mg base "is_within" 2 ["thing", "low", "high"] spWithin) : FnOk P w K mg base CX0 3 f fd ["thing"] (spTo 7) := by
  refine F.ok scInner (fun vs H Q E h => ?_) (fun cdv A outer s H vs Q E hr h => ?_)
  · obtain ⟨i, rfl, _⟩ := h
    rfl
  · obtain ⟨i, rfl, h1, h2, q⟩ := h
    refine ⟨_, pss_one (ps_ret (pe_fn WI hr rfl (pa_cons (pv 0) (pa_cons pe_int (pa_cons (pe_glob (v := .int 7) rfl C.inner ⟨_, rfl⟩) pa_nil))))), ?_⟩
    exact ⟨_, rfl, i, 0, 7, rfl, h1, h2, q⟩
theorem scField : FnScope ["thing"] ["thing"] (defScope sField) := ⟨rfl, rfl, rfl, by decide +kernel, rfl, by decide +kernel, by decide +kernel⟩
theorem ok_field {f : Addr} {fd : FuncData} (F : Fun K "is_field" "is_field" sField f fd) (C : Cst K mg w aO t1 t2 t3 t4 fs) (WI : Fn P w K mg base "is_within" 2 ["thing", "low", "high"] spWithin) : FnOk P w K mg base CX0 3 f fd ["thing"] (spTo 2) := by
  refine F.ok scField (fun vs H Q E h => ?_) (fun cdv A outer s H vs Q E hr h => ?_)
  · obtain ⟨i, rfl, _⟩ := h
    rfl
  · obtain ⟨i, rfl, h1, h2, q⟩ := h
    refine ⟨_, pss_one (ps_ret (pe_fn WI hr rfl (pa_cons (pv 0) (pa_cons pe_int (pa_cons (pe_glob (v := .int 2) rfl C.field ⟨_, rfl⟩) pa_nil))))), ?_⟩
    exact ⟨_, rfl, i, 0, 2, rfl, h1, h2, q⟩
theorem scSel : FnScope ["thing"] ["thing"] (defScope sSel) := ⟨rfl, rfl, rfl, by decide +kernel, rfl, by decide +kernel, by decide +kernel⟩
theorem ok_sel {f : Addr} {fd : FuncData} (F : Fun K "is_sel" "is_sel" sSel f fd) (C : Cst K mg w aO t1 t2 t3 t4 fs) (WI : Fn P w K mg base "is_within" 2 ["thing", "low", "high"] spWithin) (HD : Fn P w K mg base "is_headed" 1 ["thing", "word", "many"] spHeaded) (FI : Fn P w K mg base "is_field" 3 ["thing"] (spTo 2)) :
    FnOk P w K mg base CX0 4 f fd ["thing"] spSel := by
  refine F.ok scSel (fun vs H Q E h => ?_) (fun cdv A outer s H vs Q E hr h => ?_)
  · obtain ⟨v, rfl, _⟩ := h
    rfl
  · obtain ⟨v, rfl, ⟨p, n, i, rfl, hp, hn⟩, q⟩ := h
    have hr1 : Room 1 _ := hr.mono (by decide)
    have hr2 : Room 2 _ := hr.mono (by decide)
    refine ⟨_, pss_cons (ps_if (pt_val (pe_fn HD hr1 rfl (pa_cons (pv 0) (pa_cons pe_str (pa_cons pe_int pa_nil))))) (pss_one (ps_ret (pe_fn WI hr2 rfl (pa_cons (pe_ix ix_tup (pv 0) pe_int (fun _ _ => rfl)) (pa_cons pe_int (pa_cons (pe_glob (v := .int 3) rfl C.sel ⟨_, rfl⟩) pa_nil)))))) pss_nil)
      (pss_one (ps_ret (pe_and (pe_fn HD hr1 rfl (pa_cons (pv 0) (pa_cons pe_str (pa_cons pe_int pa_nil)))) (pe_one (pe_fn FI hr rfl (pa_cons (pe_ix ix_tup (pv 0) pe_int (fun _ _ => rfl)) pa_nil)))))), ?_⟩
    rcases hn with ⟨rfl, h1, h2⟩ | ⟨rfl, h1, h2⟩
    · refine ⟨_, rfl, p, _, _, _, 2, rfl, hp, _, rfl, iteA (hdT rfl) ?_⟩
      exact ⟨_, rfl, p, _, _, _, rfl, rfl, SqT.of hp, rfl, i, 0, 3, rfl, h1, h2, q⟩
    · refine ⟨_, rfl, p, _, _, _, 2, rfl, hp, _, rfl, iteB (hdF (by decide +kernel)) ?_⟩
      refine ⟨_, rfl, p, _, _, _, 2, rfl, hp, _, rfl, iteA (hdT rfl) ?_⟩
      exact ⟨_, rfl, p, _, _, _, rfl, rfl, SqT.of hp, rfl, i, rfl, h1, h2, q⟩
theorem scSource : FnScope ["thing"] ["thing"] (defScope sSource) := ⟨rfl, rfl, rfl, by decide +kernel, rfl, by decide +kernel, by decide +kernel⟩
theorem ok_source {f : Addr} {fd : FuncData} (F : Fun K "is_source" "is_source" sSource f fd) (C : Cst K mg w aO t1 t2 t3 t4 fs) (WI : Fn P w K mg base "is_within" 2 ["thing", "low", "high"] spWithin) (HD : Fn P w K mg base "is_headed" 1 ["thing", "word", "many"] spHeaded) (FI : Fn P w K mg base "is_field" 3 ["thing"] (spTo 2)) (IN : Fn P w K mg base "is_inner" 3 ["thing"] (spTo 7)) :
    FnOk P w K mg base CX0 4 f fd ["thing"] spSource := by
  refine F.ok scSource (fun vs H Q E h => ?_) (fun cdv A outer s H vs Q E hr h => ?_)
  · obtain ⟨v, o, rfl, _⟩ := h
    rfl
  · obtain ⟨v, o, rfl, ⟨p, n, i, rfl, hp, hn⟩, q⟩ := h
    have hr1 : Room 1 _ := hr.mono (by decide)
    have hr2 : Room 2 _ := hr.mono (by decide)
    refine ⟨_, pss_cons (ps_if (pt_val (pe_fn HD hr1 rfl (pa_cons (pv 0) (pa_cons pe_str (pa_cons pe_int pa_nil))))) (pss_one (ps_ret (pe_fn IN hr rfl (pa_cons (pe_ix ix_tup (pv 0) pe_int (fun _ _ => rfl)) pa_nil)))) pss_nil)
      (pss_cons (ps_if (pt_val (pe_fn HD hr1 rfl (pa_cons (pv 0) (pa_cons pe_str (pa_cons pe_int pa_nil))))) (pss_one (ps_ret (pe_fn WI hr2 rfl (pa_cons (pe_ix ix_tup (pv 0) pe_int (fun _ _ => rfl)) (pa_cons pe_int (pa_cons (pe_glob (v := .int 16777215) rfl C.word ⟨_, rfl⟩) pa_nil)))))) pss_nil)
      (pss_one (ps_ret (pe_and (pe_fn HD hr1 rfl (pa_cons (pv 0) (pa_cons pe_str (pa_cons pe_int pa_nil)))) (pe_one (pe_fn FI hr rfl (pa_cons (pe_ix ix_tup (pv 0) pe_int (fun _ _ => rfl)) pa_nil))))))), ?_⟩
    rcases hn with ⟨rfl, h1, h2, _⟩ | ⟨rfl, h1, h2, _⟩ | ⟨rfl, h1, h2, _⟩
    · refine ⟨_, rfl, p, _, _, _, 2, rfl, hp, _, rfl, iteA (hdT rfl) ?_⟩
      exact ⟨_, rfl, p, _, _, _, rfl, rfl, SqT.of hp, rfl, i, rfl, h1, h2, q⟩
    · refine ⟨_, rfl, p, _, _, _, 2, rfl, hp, _, rfl, iteB (hdF (by decide +kernel)) ?_⟩
      refine ⟨_, rfl, p, _, _, _, 2, rfl, hp, _, rfl, iteA (hdT rfl) ?_⟩
      exact ⟨_, rfl, p, _, _, _, rfl, rfl, SqT.of hp, rfl, i, 0, 16777215, rfl, h1, h2, q⟩
    · refine ⟨_, rfl, p, _, _, _, 2, rfl, hp, _, rfl, iteB (hdF (by decide +kernel)) ?_⟩
      refine ⟨_, rfl, p, _, _, _, 2, rfl, hp, _, rfl, iteB (hdF (by decide +kernel)) ?_⟩
      refine ⟨_, rfl, p, _, _, _, 2, rfl, hp, _, rfl, iteA (hdT rfl) ?_⟩
      exact ⟨_, rfl, p, _, _, _, rfl, rfl, SqT.of hp, rfl, i, rfl, h1, h2, q⟩
end
end L3

set_option Elab.async false
set_option linter.all false
set_option maxRecDepth 100000
namespace L3
open PySem L2
theorem in_ops : ∀ f ∈ opsL, inV (.str f) (opsL.map V.str) = true := by decide +kernel
section
variable {P : Program} {w : World} {K : PySem.W.Frag} {mg : Str → Option Value} {base : Heap} {aO : Addr} {t1 t2 t3 t4 : Tok} {fs : Str → V}
theorem scIsStep : FnScope ["thing"] ["thing"] (defScope sIsStep) := ⟨rfl, rfl, rfl, by decide +kernel, rfl, by decide +kernel, by decide +kernel⟩
set_option maxHeartbeats 2000000 in
theorem ok_isStep {f : Addr} {fd : FuncData} (F : Fun K "is_step" "is_step" sIsStep f fd) (HD : Fn P w K mg base "is_headed" 1 ["thing", "word", "many"] spHeaded) (IN : Fn P w K mg base "is_inner" 3 ["thing"] (spTo 7)) (SE : Fn P w K mg base "is_sel" 4 ["thing"] spSel) (SO : Fn P w K mg base "is_source" 4 ["thing"] spSource) (OP : Fn P w K mg base "ops_told" 1 [] spOps) :
    FnOk P w K mg base CX0 5 f fd ["thing"] spIsStep := by
  refine F.ok scIsStep (fun vs H Q E h => ?_) (fun cdv A outer s H vs Q E hr h => ?_)
  · obtain ⟨v, m, rfl, _⟩ := h
    rfl
  · obtain ⟨v, m, rfl, ht, q⟩ := h
    have hr1 : Room 1 _ := hr.mono (by decide)
    have hr3 : Room 3 _ := hr.mono (by decide)
    refine ⟨_, pss_cons (ps_if (PW.pt (pw_or (pt_val (pe_fn HD hr1 rfl (pa_cons (pv 0) (pa_cons pe_str (pa_cons pe_int pa_nil))))) (pw_or1 (pt_val (pe_fn HD hr1 rfl (pa_cons (pv 0) (pa_cons pe_str (pa_cons pe_int pa_nil)))))))) (pss_one (ps_ret (pe_and (pe_fn IN hr3 rfl (pa_cons (pe_ix ix_tup (pv 0) pe_int (fun _ _ => rfl)) pa_nil)) (pe_one (pe_fn SE hr rfl (pa_cons (pe_ix ix_tup (pv 0) pe_int (fun _ _ => rfl)) pa_nil)))))) pss_nil)
      (pss_cons (ps_if (pt_val (pe_fn HD hr1 rfl (pa_cons (pv 0) (pa_cons pe_str (pa_cons pe_int pa_nil))))) (pss_one (ps_ret (pe_and (pe_fn IN hr3 rfl (pa_cons (pe_ix ix_tup (pv 0) pe_int (fun _ _ => rfl)) pa_nil)) (pe_one (pe_fn SO hr rfl (pa_cons (pe_ix ix_tup (pv 0) pe_int (fun _ _ => rfl)) pa_nil)))))) pss_nil)
      (pss_cons (ps_if (pt_val (pe_fn HD hr1 rfl (pa_cons (pv 0) (pa_cons pe_str (pa_cons pe_int pa_nil))))) (pss_one (ps_ret (pe_and (pe_fn IN hr3 rfl (pa_cons (pe_ix ix_tup (pv 0) pe_int (fun _ _ => rfl)) pa_nil)) (pe_and (pe_cmpR op_in_seq (pe_ix ix_tup (pv 0) pe_int (fun _ _ => rfl)) (pe_fn0 OP hr1 rfl) rfl) (pe_and (pe_fn SO hr rfl (pa_cons (pe_ix ix_tup (pv 0) pe_int (fun _ _ => rfl)) pa_nil)) (pe_one (pe_fn SO hr rfl (pa_cons (pe_ix ix_tup (pv 0) pe_int (fun _ _ => rfl)) pa_nil)))))))) pss_nil)
      (pss_cons (ps_if (PW.pt (pw_or (pt_val (pe_fn HD hr1 rfl (pa_cons (pv 0) (pa_cons pe_str (pa_cons pe_int pa_nil))))) (pw_or1 (pt_val (pe_fn HD hr1 rfl (pa_cons (pv 0) (pa_cons pe_str (pa_cons pe_int pa_nil)))))))) (pss_one (ps_ret (pe_and (pe_fn SE hr rfl (pa_cons (pe_ix ix_tup (pv 0) pe_int (fun _ _ => rfl)) pa_nil)) (pe_one (pe_fn SO hr rfl (pa_cons (pe_ix ix_tup (pv 0) pe_int (fun _ _ => rfl)) pa_nil)))))) pss_nil)
      (pss_one (ps_ret (pe_and (pe_fn HD hr1 rfl (pa_cons (pv 0) (pa_cons pe_str (pa_cons pe_int pa_nil)))) (pe_and (pe_fn SO hr rfl (pa_cons (pe_ix ix_tup (pv 0) pe_int (fun _ _ => rfl)) pa_nil)) (pe_one (pe_fn SO hr rfl (pa_cons (pe_ix ix_tup (pv 0) pe_int (fun _ _ => rfl)) pa_nil)))))))))), ?_⟩
    cases ht with
    | @get p n s hp hn hs =>
      refine ⟨_, rfl, p, _, _, _, 3, rfl, hp, _, rfl, iteA (hdT rfl) ?_⟩
      refine ⟨_, rfl, p, _, _, _, rfl, rfl, SqT.of hp, rfl, n, rfl, by omega, by omega, _, rfl, iteT ?_⟩
      exact ⟨_, rfl, p, _, _, _, rfl, rfl, SqT.of hp, rfl, _, rfl, hs, q _ (Same.refl _)⟩
    | @ask p n s hp hn hs =>
      refine ⟨_, rfl, p, _, _, _, 3, rfl, hp, _, rfl, iteB (hdF (by decide +kernel)) ?_⟩
      refine ⟨_, rfl, p, _, _, _, 3, rfl, hp, _, rfl, iteA (hdT rfl) ?_⟩
      refine ⟨_, rfl, p, _, _, _, rfl, rfl, SqT.of hp, rfl, n, rfl, by omega, by omega, _, rfl, iteT ?_⟩
      exact ⟨_, rfl, p, _, _, _, rfl, rfl, SqT.of hp, rfl, _, rfl, hs, q _ (Same.refl _)⟩
    | @cell p n s o hp hn hs =>
      refine ⟨_, rfl, p, _, _, _, 3, rfl, hp, _, rfl, iteB (hdF (by decide +kernel)) ?_⟩
      refine ⟨_, rfl, p, _, _, _, 3, rfl, hp, _, rfl, iteB (hdF (by decide +kernel)) ?_⟩
      refine ⟨_, rfl, p, _, _, _, 3, rfl, hp, _, rfl, iteA (hdT rfl) ?_⟩
      refine ⟨_, rfl, p, _, _, _, rfl, rfl, SqT.of hp, rfl, n, rfl, by omega, by omega, _, rfl, iteT ?_⟩
      exact ⟨_, rfl, p, _, _, _, rfl, rfl, SqT.of hp, rfl, _, _, rfl, hs, q _ (Same.refl _)⟩
    | @two p n f s s' o o' hp hn hf hs hs2 =>
      refine ⟨_, rfl, p, _, _, _, 3, rfl, hp, _, rfl, iteB (hdF (by decide +kernel)) ?_⟩
      refine ⟨_, rfl, p, _, _, _, 3, rfl, hp, _, rfl, iteB (hdF (by decide +kernel)) ?_⟩
      refine ⟨_, rfl, p, _, _, _, 3, rfl, hp, _, rfl, iteB (hdF (by decide +kernel)) ?_⟩
      refine ⟨_, rfl, p, _, _, _, 5, rfl, hp, _, rfl, iteA (hdT rfl) ?_⟩
      refine ⟨_, rfl, p, _, _, _, rfl, rfl, SqT.of hp, rfl, n, rfl, by omega, by omega, _, rfl, iteT ?_⟩
      refine ⟨_, rfl, p, _, _, _, rfl, rfl, SqT.of hp, rfl, rfl, fun l nl => ?_⟩
      have s1 := same_new (o := .lst (opsL.map V.str)) nl
      refine ⟨l, _, rfl, .inl (SqL.of upd_same), rfl, by decide +kernel, _, rfl, iteA (in_ops _ hf) ?_⟩
      refine ⟨_, rfl, p, _, _, _, rfl, rfl, SqT.of (s1 _ _ hp), rfl, _, _, rfl, hs.kt (kt_same s1), _, rfl, iteT ?_⟩
      exact ⟨_, rfl, p, _, _, _, rfl, rfl, SqT.of (s1 _ _ hp), rfl, _, _, rfl, hs2.kt (kt_same s1), q _ s1⟩
    | @put p s s' o hp hs hs2 =>
      refine ⟨_, rfl, p, _, _, _, 3, rfl, hp, _, rfl, iteB (hdF (by decide +kernel)) ?_⟩
      refine ⟨_, rfl, p, _, _, _, 3, rfl, hp, _, rfl, iteB (hdF (by decide +kernel)) ?_⟩
      refine ⟨_, rfl, p, _, _, _, 3, rfl, hp, _, rfl, iteB (hdF (by decide +kernel)) ?_⟩
      refine ⟨_, rfl, p, _, _, _, 5, rfl, hp, _, rfl, iteB (hdF (by decide +kernel)) ?_⟩
      refine ⟨_, rfl, p, _, _, _, 3, rfl, hp, _, rfl, iteA (hdT rfl) ?_⟩
      refine ⟨_, rfl, p, _, _, _, rfl, rfl, SqT.of hp, rfl, _, rfl, hs, _, rfl, iteT ?_⟩
      exact ⟨_, rfl, p, _, _, _, rfl, rfl, SqT.of hp, rfl, _, _, rfl, hs2, q _ (Same.refl _)⟩
    | @tell p s s' o hp hs hs2 =>
      refine ⟨_, rfl, p, _, _, _, 3, rfl, hp, _, rfl, iteB (hdF (by decide +kernel)) ?_⟩
      refine ⟨_, rfl, p, _, _, _, 3, rfl, hp, _, rfl, iteB (hdF (by decide +kernel)) ?_⟩
      refine ⟨_, rfl, p, _, _, _, 3, rfl, hp, _, rfl, iteB (hdF (by decide +kernel)) ?_⟩
      refine ⟨_, rfl, p, _, _, _, 5, rfl, hp, _, rfl, iteB (hdF (by decide +kernel)) ?_⟩
      refine ⟨_, rfl, p, _, _, _, 3, rfl, hp, _, rfl, iteB (hdF (by decide +kernel)) ?_⟩
      refine ⟨_, rfl, p, _, _, _, 3, rfl, hp, _, rfl, iteA (hdT rfl) ?_⟩
      refine ⟨_, rfl, p, _, _, _, rfl, rfl, SqT.of hp, rfl, _, rfl, hs, _, rfl, iteT ?_⟩
      exact ⟨_, rfl, p, _, _, _, rfl, rfl, SqT.of hp, rfl, _, _, rfl, hs2, q _ (Same.refl _)⟩
    | @store p s s' o o' hp hs hs2 =>
      refine ⟨_, rfl, p, _, _, _, 3, rfl, hp, _, rfl, iteB (hdF (by decide +kernel)) ?_⟩
      refine ⟨_, rfl, p, _, _, _, 3, rfl, hp, _, rfl, iteB (hdF (by decide +kernel)) ?_⟩
      refine ⟨_, rfl, p, _, _, _, 3, rfl, hp, _, rfl, iteB (hdF (by decide +kernel)) ?_⟩
      refine ⟨_, rfl, p, _, _, _, 5, rfl, hp, _, rfl, iteB (hdF (by decide +kernel)) ?_⟩
      refine ⟨_, rfl, p, _, _, _, 3, rfl, hp, _, rfl, iteB (hdF (by decide +kernel)) ?_⟩
      refine ⟨_, rfl, p, _, _, _, 3, rfl, hp, _, rfl, iteB (hdF (by decide +kernel)) ?_⟩
      refine ⟨_, rfl, p, _, _, _, 3, rfl, hp, _, rfl, iteA (hdT rfl) ?_⟩
      refine ⟨_, rfl, p, _, _, _, rfl, rfl, SqT.of hp, rfl, _, _, rfl, hs, _, rfl, iteT ?_⟩
      exact ⟨_, rfl, p, _, _, _, rfl, rfl, SqT.of hp, rfl, _, _, rfl, hs2, q _ (Same.refl _)⟩
/-! ### the classes -/
def nmK : Nat → Str
  | 0 => "Get"
  | 1 => "Ask"
  | 2 => "Cell"
  | 3 => "Two"
  | 4 => "Put"
  | 5 => "Tell"
  | _ => "Store"
def flK : Nat → List Str
  | 0 => ["to", "sel"]
  | 1 => ["to", "sel"]
  | 2 => ["to", "source"]
  | 3 => ["to", "op", "one", "other"]
  | 4 => ["sel", "source"]
  | 5 => ["sel", "source"]
  | _ => ["at", "source"]
structure Ct (K : PySem.W.Frag) (mg : Str → Option Value) (C fi : Nat → Addr) : Prop where
  cls : ∀ k, k < 7 → Cls K (C k)
  na : ∀ k, k < 7 → ∀ f ∈ flK k, NoAttr K (C k) f
  mk_ : ∀ k, k < 7 → Mk K (C k) (fi k)
  mg : ∀ k, k < 7 → mg (nmK k) = some (.ref (C k))
def spI2 (C : Addr) (a b : Str) : Sp := fun vs H Q _ => ∃ (x dx : Addr) (u v : V), vs = [.ref x, u, v] ∧ H x = some (.ins C dx []) ∧ Q .non (upd (upd H x (.ins C dx [(a, u)])) x (.ins C dx [(a, u), (b, v)]))
def spI4 (C : Addr) (a b c d : Str) : Sp := fun vs H Q _ => ∃ (x dx : Addr) (u v y z : V), vs = [.ref x, u, v, y, z] ∧ H x = some (.ins C dx []) ∧
  Q .non (upd (upd (upd (upd H x (.ins C dx [(a, u)])) x (.ins C dx [(a, u), (b, v)])) x (.ins C dx [(a, u), (b, v), (c, y)])) x (.ins C dx [(a, u), (b, v), (c, y), (d, z)]))
abbrev sI0 : Stmt := inClass (top 32) 0
theorem scI0 : FnScope ["self", "to", "sel"] ["self", "to", "sel"] (defScope sI0) := ⟨rfl, rfl, rfl, by decide +kernel, rfl, by decide +kernel, by decide +kernel⟩
theorem ok_I0 {C fi : Nat → Addr} {f : Addr} {fd : FuncData} (F : Fun K "__init__" "Get.__init__" sI0 f fd) (T : Ct K mg C fi) : FnOk P w K mg base CX0 1 f fd ["self", "to", "sel"] (spI2 (C 0) "to" "sel") := by
  refine F.ok scI0 (fun vs H Q E h => ?_) (fun cdv A outer s H vs Q E hr h => ?_)
  · obtain ⟨x, dx, u, v, rfl, _⟩ := h
    rfl
  · obtain ⟨x, dx, u, v, rfl, hx, q⟩ := h
    refine ⟨_, pss_cons (ps_fld (pv 0) (pv 1) rfl) (pss_one (ps_fld (pv 0) (pv 2) rfl)), ?_⟩
    refine ⟨_, rfl, _, rfl, x, C 0, dx, _, rfl, hx, T.cls 0 (by decide), (T.na 0 (by decide) "to" (by decide +kernel)), (by show 0 < 1000; decide), ?_⟩
    exact ⟨_, rfl, _, rfl, x, C 0, dx, _, rfl, upd_same, T.cls 0 (by decide), (T.na 0 (by decide) "sel" (by decide +kernel)), (by show 1 < 1000; decide), q⟩
abbrev sI1 : Stmt := inClass (top 33) 0
theorem scI1 : FnScope ["self", "to", "sel"] ["self", "to", "sel"] (defScope sI1) := ⟨rfl, rfl, rfl, by decide +kernel, rfl, by decide +kernel, by decide +kernel⟩
theorem ok_I1 {C fi : Nat → Addr} {f : Addr} {fd : FuncData} (F : Fun K "__init__" "Ask.__init__" sI1 f fd) (T : Ct K mg C fi) : FnOk P w K mg base CX0 1 f fd ["self", "to", "sel"] (spI2 (C 1) "to" "sel") := by
  refine F.ok scI1 (fun vs H Q E h => ?_) (fun cdv A outer s H vs Q E hr h => ?_)
  · obtain ⟨x, dx, u, v, rfl, _⟩ := h
    rfl
  · obtain ⟨x, dx, u, v, rfl, hx, q⟩ := h
    refine ⟨_, pss_cons (ps_fld (pv 0) (pv 1) rfl) (pss_one (ps_fld (pv 0) (pv 2) rfl)), ?_⟩
    refine ⟨_, rfl, _, rfl, x, C 1, dx, _, rfl, hx, T.cls 1 (by decide), (T.na 1 (by decide) "to" (by decide +kernel)), (by show 0 < 1000; decide), ?_⟩
    exact ⟨_, rfl, _, rfl, x, C 1, dx, _, rfl, upd_same, T.cls 1 (by decide), (T.na 1 (by decide) "sel" (by decide +kernel)), (by show 1 < 1000; decide), q⟩
abbrev sI2 : Stmt := inClass (top 34) 0
theorem scI2 : FnScope ["self", "to", "source"] ["self", "to", "source"] (defScope sI2) := ⟨rfl, rfl, rfl, by decide +kernel, rfl, by decide +kernel, by decide +kernel⟩
theorem ok_I2 {C fi : Nat → Addr} {f : Addr} {fd : FuncData} (F : Fun K "__init__" "Cell.__init__" sI2 f fd) (T : Ct K mg C fi) : FnOk P w K mg base CX0 1 f fd ["self", "to", "source"] (spI2 (C 2) "to" "source") := by
  refine F.ok scI2 (fun vs H Q E h => ?_) (fun cdv A outer s H vs Q E hr h => ?_)
  · obtain ⟨x, dx, u, v, rfl, _⟩ := h
    rfl
  · obtain ⟨x, dx, u, v, rfl, hx, q⟩ := h
    refine ⟨_, pss_cons (ps_fld (pv 0) (pv 1) rfl) (pss_one (ps_fld (pv 0) (pv 2) rfl)), ?_⟩
    refine ⟨_, rfl, _, rfl, x, C 2, dx, _, rfl, hx, T.cls 2 (by decide), (T.na 2 (by decide) "to" (by decide +kernel)), (by show 0 < 1000; decide), ?_⟩
    exact ⟨_, rfl, _, rfl, x, C 2, dx, _, rfl, upd_same, T.cls 2 (by decide), (T.na 2 (by decide) "source" (by decide +kernel)), (by show 1 < 1000; decide), q⟩
abbrev sI3 : Stmt := inClass (top 35) 0
theorem scI3 : FnScope ["self", "to", "op", "one", "other"] ["self", "to", "op", "one", "other"] (defScope sI3) := ⟨rfl, rfl, rfl, by decide +kernel, rfl, by decide +kernel, by decide +kernel⟩
theorem ok_I3 {C fi : Nat → Addr} {f : Addr} {fd : FuncData} (F : Fun K "__init__" "Two.__init__" sI3 f fd) (T : Ct K mg C fi) : FnOk P w K mg base CX0 1 f fd ["self", "to", "op", "one", "other"] (spI4 (C 3) "to" "op" "one" "other") := by
  refine F.ok scI3 (fun vs H Q E h => ?_) (fun cdv A outer s H vs Q E hr h => ?_)
  · obtain ⟨x, dx, u, v, y, z, rfl, _⟩ := h
    rfl
  · obtain ⟨x, dx, u, v, y, z, rfl, hx, q⟩ := h
    refine ⟨_, pss_cons (ps_fld (pv 0) (pv 1) rfl) (pss_cons (ps_fld (pv 0) (pv 2) rfl) (pss_cons (ps_fld (pv 0) (pv 3) rfl) (pss_one (ps_fld (pv 0) (pv 4) rfl)))), ?_⟩
    refine ⟨_, rfl, _, rfl, x, C 3, dx, _, rfl, hx, T.cls 3 (by decide), (T.na 3 (by decide) "to" (by decide +kernel)), (by show 0 < 1000; decide), ?_⟩
    refine ⟨_, rfl, _, rfl, x, C 3, dx, _, rfl, upd_same, T.cls 3 (by decide), (T.na 3 (by decide) "op" (by decide +kernel)), (by show 1 < 1000; decide), ?_⟩
    refine ⟨_, rfl, _, rfl, x, C 3, dx, _, rfl, upd_same, T.cls 3 (by decide), (T.na 3 (by decide) "one" (by decide +kernel)), (by show 2 < 1000; decide), ?_⟩
    exact ⟨_, rfl, _, rfl, x, C 3, dx, _, rfl, upd_same, T.cls 3 (by decide), (T.na 3 (by decide) "other" (by decide +kernel)), (by show 3 < 1000; decide), q⟩
abbrev sI4 : Stmt := inClass (top 36) 0
theorem scI4 : FnScope ["self", "sel", "source"] ["self", "sel", "source"] (defScope sI4) := ⟨rfl, rfl, rfl, by decide +kernel, rfl, by decide +kernel, by decide +kernel⟩
theorem ok_I4 {C fi : Nat → Addr} {f : Addr} {fd : FuncData} (F : Fun K "__init__" "Put.__init__" sI4 f fd) (T : Ct K mg C fi) : FnOk P w K mg base CX0 1 f fd ["self", "sel", "source"] (spI2 (C 4) "sel" "source") := by
  refine F.ok scI4 (fun vs H Q E h => ?_) (fun cdv A outer s H vs Q E hr h => ?_)
  · obtain ⟨x, dx, u, v, rfl, _⟩ := h
    rfl
  · obtain ⟨x, dx, u, v, rfl, hx, q⟩ := h
    refine ⟨_, pss_cons (ps_fld (pv 0) (pv 1) rfl) (pss_one (ps_fld (pv 0) (pv 2) rfl)), ?_⟩
    refine ⟨_, rfl, _, rfl, x, C 4, dx, _, rfl, hx, T.cls 4 (by decide), (T.na 4 (by decide) "sel" (by decide +kernel)), (by show 0 < 1000; decide), ?_⟩
    exact ⟨_, rfl, _, rfl, x, C 4, dx, _, rfl, upd_same, T.cls 4 (by decide), (T.na 4 (by decide) "source" (by decide +kernel)), (by show 1 < 1000; decide), q⟩
abbrev sI5 : Stmt := inClass (top 37) 0
theorem scI5 : FnScope ["self", "sel", "source"] ["self", "sel", "source"] (defScope sI5) := ⟨rfl, rfl, rfl, by decide +kernel, rfl, by decide +kernel, by decide +kernel⟩
theorem ok_I5 {C fi : Nat → Addr} {f : Addr} {fd : FuncData} (F : Fun K "__init__" "Tell.__init__" sI5 f fd) (T : Ct K mg C fi) : FnOk P w K mg base CX0 1 f fd ["self", "sel", "source"] (spI2 (C 5) "sel" "source") := by
  refine F.ok scI5 (fun vs H Q E h => ?_) (fun cdv A outer s H vs Q E hr h => ?_)
  · obtain ⟨x, dx, u, v, rfl, _⟩ := h
    rfl
  · obtain ⟨x, dx, u, v, rfl, hx, q⟩ := h
    refine ⟨_, pss_cons (ps_fld (pv 0) (pv 1) rfl) (pss_one (ps_fld (pv 0) (pv 2) rfl)), ?_⟩
    refine ⟨_, rfl, _, rfl, x, C 5, dx, _, rfl, hx, T.cls 5 (by decide), (T.na 5 (by decide) "sel" (by decide +kernel)), (by show 0 < 1000; decide), ?_⟩
    exact ⟨_, rfl, _, rfl, x, C 5, dx, _, rfl, upd_same, T.cls 5 (by decide), (T.na 5 (by decide) "source" (by decide +kernel)), (by show 1 < 1000; decide), q⟩
abbrev sI6 : Stmt := inClass (top 38) 0
theorem scI6 : FnScope ["self", "at", "source"] ["self", "at", "source"] (defScope sI6) := ⟨rfl, rfl, rfl, by decide +kernel, rfl, by decide +kernel, by decide +kernel⟩
theorem ok_I6 {C fi : Nat → Addr} {f : Addr} {fd : FuncData} (F : Fun K "__init__" "Store.__init__" sI6 f fd) (T : Ct K mg C fi) : FnOk P w K mg base CX0 1 f fd ["self", "at", "source"] (spI2 (C 6) "at" "source") := by
  refine F.ok scI6 (fun vs H Q E h => ?_) (fun cdv A outer s H vs Q E hr h => ?_)
  · obtain ⟨x, dx, u, v, rfl, _⟩ := h
    rfl
  · obtain ⟨x, dx, u, v, rfl, hx, q⟩ := h
    refine ⟨_, pss_cons (ps_fld (pv 0) (pv 1) rfl) (pss_one (ps_fld (pv 0) (pv 2) rfl)), ?_⟩
    refine ⟨_, rfl, _, rfl, x, C 6, dx, _, rfl, hx, T.cls 6 (by decide), (T.na 6 (by decide) "at" (by decide +kernel)), (by show 0 < 1000; decide), ?_⟩
    exact ⟨_, rfl, _, rfl, x, C 6, dx, _, rfl, upd_same, T.cls 6 (by decide), (T.na 6 (by decide) "source" (by decide +kernel)), (by show 1 < 1000; decide), q⟩
end
end L3

set_option Elab.async false
set_option linter.all false
set_option maxRecDepth 100000
namespace L3
open PySem L2
/-! ### a step as it lies there -/
inductive StepV (C : Nat → Addr) (H : Hp) : V → Md → Prop
  | get {a dx : Addr} {n : Nat} {v : V} : H a = some (.ins (C 0) dx [("to", .int n), ("sel", v)]) → n < 8 → StepV C H (.ref a) ⟨0, n, []⟩
  | ask {a dx : Addr} {n : Nat} {v : V} : H a = some (.ins (C 1) dx [("to", .int n), ("sel", v)]) → n < 8 → StepV C H (.ref a) ⟨1, n, []⟩
  | cell {a dx : Addr} {n : Nat} {s : V} {o : Option Nat} : H a = some (.ins (C 2) dx [("to", .int n), ("source", s)]) → n < 8 → SrcOK H s o → StepV C H (.ref a) ⟨2, n, [o]⟩
  | two {a dx : Addr} {n : Nat} {f s s' : V} {o o' : Option Nat} : H a = some (.ins (C 3) dx [("to", .int n), ("op", f), ("one", s), ("other", s')]) → n < 8 → SrcOK H s o → SrcOK H s' o' → StepV C H (.ref a) ⟨3, n, [o, o']⟩
  | put {a dx : Addr} {v s : V} {o : Option Nat} : H a = some (.ins (C 4) dx [("sel", v), ("source", s)]) → SrcOK H s o → StepV C H (.ref a) ⟨4, 0, [o]⟩
  | tell {a dx : Addr} {v s : V} {o : Option Nat} : H a = some (.ins (C 5) dx [("sel", v), ("source", s)]) → SrcOK H s o → StepV C H (.ref a) ⟨5, 0, [o]⟩
  | store {a dx : Addr} {s s' : V} {o o' : Option Nat} : H a = some (.ins (C 6) dx [("at", s), ("source", s')]) → SrcOK H s o → SrcOK H s' o' → StepV C H (.ref a) ⟨6, 0, [o, o']⟩
theorem StepV.same {C : Nat → Addr} {H H' : Hp} (s : Same H H') {v : V} {m : Md} (h : StepV C H v m) : StepV C H' v m := by
  have k := kt_same s
  cases h with
  | get a b => exact .get (s _ _ a) b
  | ask a b => exact .ask (s _ _ a) b
  | cell a b c => exact .cell (s _ _ a) b (c.kt k)
  | two a b c d => exact .two (s _ _ a) b (c.kt k) (d.kt k)
  | put a b => exact .put (s _ _ a) (b.kt k)
  | tell a b => exact .tell (s _ _ a) (b.kt k)
  | store a b c => exact .store (s _ _ a) (b.kt k) (c.kt k)
theorem StepV.at_ {C : Nat → Addr} {H : Hp} {v : V} {m : Md} (h : StepV C H v m) : ∃ (a dx : Addr) (fs : List (Str × V)), v = .ref a ∧ H a = some (.ins (C m.kind) dx fs) ∧ m.kind < 7 ∧ fs.lookup ("uses_way" : Str) = none ∧ fs.lookup ("sources" : Str) = none ∧ fs.lookup ("targets" : Str) = none ∧ fs.lookup ("touched" : Str) = none ∧ fs.lookup ("reads" : Str) = none ∧ fs.lookup ("writes" : Str) = none := by
  cases h with
  | get a b => exact ⟨_, _, _, rfl, a, (by show 0 < 7; decide), rfl, rfl, rfl, rfl, rfl, rfl⟩
  | ask a b => exact ⟨_, _, _, rfl, a, (by show 1 < 7; decide), rfl, rfl, rfl, rfl, rfl, rfl⟩
  | cell a b c => exact ⟨_, _, _, rfl, a, (by show 2 < 7; decide), rfl, rfl, rfl, rfl, rfl, rfl⟩
  | two a b c d => exact ⟨_, _, _, rfl, a, (by show 3 < 7; decide), rfl, rfl, rfl, rfl, rfl, rfl⟩
  | put a b => exact ⟨_, _, _, rfl, a, (by show 4 < 7; decide), rfl, rfl, rfl, rfl, rfl, rfl⟩
  | tell a b => exact ⟨_, _, _, rfl, a, (by show 5 < 7; decide), rfl, rfl, rfl, rfl, rfl, rfl⟩
  | store a b c => exact ⟨_, _, _, rfl, a, (by show 6 < 7; decide), rfl, rfl, rfl, rfl, rfl, rfl⟩
def tgt (m : Md) : List Nat := if m.kind < 4 then [m.to] else []
theorem StepV.tgt8 {C : Nat → Addr} {H : Hp} {v : V} {m : Md} (h : StepV C H v m) : (tgt m).length ≤ 2 ∧ ∀ k ∈ tgt m, k < 8 := by
  cases h <;> simp_all [tgt]
/-- a part of a step: its word and its number -/
abbrev Part := Str × Int
def SelC (x : Part) : Prop := (x.1 = "is" ∧ 0 ≤ x.2 ∧ x.2 ≤ 3) ∨ (x.1 = "by" ∧ 0 ≤ x.2 ∧ x.2 ≤ 2)
def SrcC (x : Part) : Prop := (x.1 = "in" ∧ 0 ≤ x.2 ∧ x.2 ≤ 7) ∨ (x.1 = "number" ∧ 0 ≤ x.2 ∧ x.2 ≤ 16777215) ∨ (x.1 = "field" ∧ 0 ≤ x.2 ∧ x.2 ≤ 2)
def Pt (H : Hp) (v : V) (x : Part) : Prop := ∃ p, v = .ref p ∧ H p = some (.tup [.str x.1, .int x.2])
def inO (x : Part) : Option Nat := if x.1 = "in" then some x.2.toNat else none
theorem Pt.kt {H H' : Hp} (k : TupK H H') {v : V} {x : Part} (h : Pt H v x) : Pt H' v x := let ⟨p, a, b⟩ := h; ⟨p, a, k _ _ b⟩
theorem Pt.sel {H : Hp} {v : V} {x : Part} (h : Pt H v x) (c : SelC x) : SelOK H v := let ⟨p, a, b⟩ := h; ⟨p, x.1, x.2, a, b, c⟩
theorem Pt.src {H : Hp} {v : V} {x : Part} (h : Pt H v x) (c : SrcC x) : SrcOK H v (inO x) := by
  obtain ⟨p, a, b⟩ := h
  refine ⟨p, x.1, x.2, a, b, ?_⟩
  rcases c with ⟨e, h0, h1⟩ | ⟨e, h0, h1⟩ | ⟨e, h0, h1⟩
  · exact .inl ⟨e, h0, h1, by unfold inO; rw [if_pos e]⟩
  · exact .inr (.inl ⟨e, h0, h1, by unfold inO; rw [e]; rfl⟩)
  · exact .inr (.inr ⟨e, h0, h1, by unfold inO; rw [e]; rfl⟩)
inductive Sd
  | get (n : Nat) (x : Part)
  | ask (n : Nat) (x : Part)
  | cell (n : Nat) (x : Part)
  | two (n : Nat) (f : Str) (x y : Part)
  | put (x y : Part)
  | tell (x y : Part)
  | store (x y : Part)
def mdOf : Sd → Md
  | .get n _ => ⟨0, n, []⟩
  | .ask n _ => ⟨1, n, []⟩
  | .cell n x => ⟨2, n, [inO x]⟩
  | .two n _ x y => ⟨3, n, [inO x, inO y]⟩
  | .put _ y => ⟨4, 0, [inO y]⟩
  | .tell _ y => ⟨5, 0, [inO y]⟩
  | .store x y => ⟨6, 0, [inO x, inO y]⟩
inductive TolD (H : Hp) : V → Sd → Prop
  | get {p : Addr} {n : Nat} {s : V} {x : Part} : H p = some (.tup [.str "get", .int n, s]) → n < 8 → Pt H s x → SelC x → TolD H (.ref p) (.get n x)
  | ask {p : Addr} {n : Nat} {s : V} {x : Part} : H p = some (.tup [.str "ask", .int n, s]) → n < 8 → Pt H s x → SelC x → TolD H (.ref p) (.ask n x)
  | cell {p : Addr} {n : Nat} {s : V} {x : Part} : H p = some (.tup [.str "cell", .int n, s]) → n < 8 → Pt H s x → SrcC x → TolD H (.ref p) (.cell n x)
  | two {p : Addr} {n : Nat} {f : Str} {s s' : V} {x y : Part} : H p = some (.tup [.str "two", .int n, .str f, s, s']) → n < 8 → f ∈ opsL → Pt H s x → SrcC x → Pt H s' y → SrcC y → TolD H (.ref p) (.two n f x y)
  | put {p : Addr} {s s' : V} {x y : Part} : H p = some (.tup [.str "put", s, s']) → Pt H s x → SelC x → Pt H s' y → SrcC y → TolD H (.ref p) (.put x y)
  | tell {p : Addr} {s s' : V} {x y : Part} : H p = some (.tup [.str "tell", s, s']) → Pt H s x → SelC x → Pt H s' y → SrcC y → TolD H (.ref p) (.tell x y)
  | store {p : Addr} {s s' : V} {x y : Part} : H p = some (.tup [.str "store", s, s']) → Pt H s x → SrcC x → Pt H s' y → SrcC y → TolD H (.ref p) (.store x y)
theorem TolD.kt {H H' : Hp} (k : TupK H H') {v : V} {d : Sd} (h : TolD H v d) : TolD H' v d := by
  cases h with
  | get a b c e => exact .get (k _ _ a) b (c.kt k) e
  | ask a b c e => exact .ask (k _ _ a) b (c.kt k) e
  | cell a b c e => exact .cell (k _ _ a) b (c.kt k) e
  | two a b f c e g i => exact .two (k _ _ a) b f (c.kt k) e (g.kt k) i
  | put a c e g i => exact .put (k _ _ a) (c.kt k) e (g.kt k) i
  | tell a c e g i => exact .tell (k _ _ a) (c.kt k) e (g.kt k) i
  | store a c e g i => exact .store (k _ _ a) (c.kt k) e (g.kt k) i
theorem TolD.tol {H : Hp} {v : V} {d : Sd} (h : TolD H v d) : Tol H v (mdOf d) := by
  cases h with
  | get a b c e => exact .get a b (c.sel e)
  | ask a b c e => exact .ask a b (c.sel e)
  | cell a b c e => exact .cell a b (c.src e)
  | two a b f c e g i => exact .two a b f (c.src e) (g.src i)
  | put a c e g i => exact .put a (c.sel e) (g.src i)
  | tell a c e g i => exact .tell a (c.sel e) (g.src i)
  | store a c e g i => exact .store a (c.src e) (g.src i)
/-- the object of a told step: the very things of the tuple -/
inductive ObD (C : Nat → Addr) (H : Hp) : V → V → Sd → Prop
  | get {a dx p : Addr} {n : Nat} {s : V} {x : Part} : H a = some (.ins (C 0) dx [("to", .int n), ("sel", s)]) → H p = some (.tup [.str "get", .int n, s]) → n < 8 → Pt H s x → SelC x → ObD C H (.ref a) (.ref p) (.get n x)
  | ask {a dx p : Addr} {n : Nat} {s : V} {x : Part} : H a = some (.ins (C 1) dx [("to", .int n), ("sel", s)]) → H p = some (.tup [.str "ask", .int n, s]) → n < 8 → Pt H s x → SelC x → ObD C H (.ref a) (.ref p) (.ask n x)
  | cell {a dx p : Addr} {n : Nat} {s : V} {x : Part} : H a = some (.ins (C 2) dx [("to", .int n), ("source", s)]) → H p = some (.tup [.str "cell", .int n, s]) → n < 8 → Pt H s x → SrcC x → ObD C H (.ref a) (.ref p) (.cell n x)
  | two {a dx p : Addr} {n : Nat} {f : Str} {s s' : V} {x y : Part} : H a = some (.ins (C 3) dx [("to", .int n), ("op", .str f), ("one", s), ("other", s')]) → H p = some (.tup [.str "two", .int n, .str f, s, s']) → n < 8 → f ∈ opsL → Pt H s x → SrcC x → Pt H s' y → SrcC y → ObD C H (.ref a) (.ref p) (.two n f x y)
  | put {a dx p : Addr} {s s' : V} {x y : Part} : H a = some (.ins (C 4) dx [("sel", s), ("source", s')]) → H p = some (.tup [.str "put", s, s']) → Pt H s x → SelC x → Pt H s' y → SrcC y → ObD C H (.ref a) (.ref p) (.put x y)
  | tell {a dx p : Addr} {s s' : V} {x y : Part} : H a = some (.ins (C 5) dx [("sel", s), ("source", s')]) → H p = some (.tup [.str "tell", s, s']) → Pt H s x → SelC x → Pt H s' y → SrcC y → ObD C H (.ref a) (.ref p) (.tell x y)
  | store {a dx p : Addr} {s s' : V} {x y : Part} : H a = some (.ins (C 6) dx [("at", s), ("source", s')]) → H p = some (.tup [.str "store", s, s']) → Pt H s x → SrcC x → Pt H s' y → SrcC y → ObD C H (.ref a) (.ref p) (.store x y)
theorem ObD.same {C : Nat → Addr} {H H' : Hp} (s : Same H H') {v u : V} {d : Sd} (h : ObD C H v u d) : ObD C H' v u d := by
  have k := kt_same s
  cases h with
  | get o a b c e => exact .get (s _ _ o) (k _ _ a) b (c.kt k) e
  | ask o a b c e => exact .ask (s _ _ o) (k _ _ a) b (c.kt k) e
  | cell o a b c e => exact .cell (s _ _ o) (k _ _ a) b (c.kt k) e
  | two o a b f c e g i => exact .two (s _ _ o) (k _ _ a) b f (c.kt k) e (g.kt k) i
  | put o a c e g i => exact .put (s _ _ o) (k _ _ a) (c.kt k) e (g.kt k) i
  | tell o a c e g i => exact .tell (s _ _ o) (k _ _ a) (c.kt k) e (g.kt k) i
  | store o a c e g i => exact .store (s _ _ o) (k _ _ a) (c.kt k) e (g.kt k) i
theorem ObD.sv {C : Nat → Addr} {H : Hp} {v u : V} {d : Sd} (h : ObD C H v u d) : StepV C H v (mdOf d) := by
  cases h with
  | get o a b c e => exact .get o b
  | ask o a b c e => exact .ask o b
  | cell o a b c e => exact .cell o b (c.src e)
  | two o a b f c e g i => exact .two o b (c.src e) (g.src i)
  | put o a c e g i => exact .put o (g.src i)
  | tell o a c e g i => exact .tell o (g.src i)
  | store o a c e g i => exact .store o (c.src e) (g.src i)
theorem ObD.tolD {C : Nat → Addr} {H : Hp} {v u : V} {d : Sd} (h : ObD C H v u d) : TolD H u d := by
  cases h with
  | get o a b c e => exact .get a b c e
  | ask o a b c e => exact .ask a b c e
  | cell o a b c e => exact .cell a b c e
  | two o a b f c e g i => exact .two a b f c e g i
  | put o a c e g i => exact .put a c e g i
  | tell o a c e g i => exact .tell a c e g i
  | store o a c e g i => exact .store a c e g i
/-- an init, as its callers want it -/
def IniOk (P : Program) (w : World) (K : PySem.W.Frag) (mg : Str → Option Value) (base : Heap) (f : Addr) (ps : List Str) (sp : Sp) : Prop := ∃ fd, FnOk P w K mg base CX0 1 f fd ps sp ∧ Binds K fd ps []
def spStepOf (C : Nat → Addr) : Sp := fun vs H Q _ => ∃ v d, vs = [v] ∧ TolD H v d ∧ ∀ u H', Same H H' → ObD C H' u v d → Q u H'
section
variable {P : Program} {w : World} {K : PySem.W.Frag} {mg : Str → Option Value} {base : Heap} {C fi : Nat → Addr}
theorem scStepOf : FnScope ["told"] ["told"] (defScope sStepOf) := ⟨rfl, rfl, rfl, by decide +kernel, rfl, by decide +kernel, by decide +kernel⟩
set_option maxHeartbeats 4000000 in
theorem ok_stepOf {f : Addr} {fd : FuncData} (F : Fun K "step_of" "step_of" sStepOf f fd) (T : Ct K mg C fi) (IS : Fn P w K mg base "is_step" 5 ["thing"] spIsStep) (I0 : IniOk P w K mg base (fi 0) ["self", "to", "sel"] (spI2 (C 0) "to" "sel")) (I1 : IniOk P w K mg base (fi 1) ["self", "to", "sel"] (spI2 (C 1) "to" "sel")) (I2 : IniOk P w K mg base (fi 2) ["self", "to", "source"] (spI2 (C 2) "to" "source")) (I3 : IniOk P w K mg base (fi 3) ["self", "to", "op", "one", "other"] (spI4 (C 3) "to" "op" "one" "other")) (I4 : IniOk P w K mg base (fi 4) ["self", "sel", "source"] (spI2 (C 4) "sel" "source")) (I5 : IniOk P w K mg base (fi 5) ["self", "sel", "source"] (spI2 (C 5) "sel" "source")) (I6 : IniOk P w K mg base (fi 6) ["self", "at", "source"] (spI2 (C 6) "at" "source")) :
    FnOk P w K mg base CX0 6 f fd ["told"] (spStepOf C) := by
  refine F.ok scStepOf (fun vs H Q E h => ?_) (fun cdv A outer s H vs Q E hr h => ?_)
  · obtain ⟨v, m, rfl, _⟩ := h
    rfl
  · obtain ⟨v, m, rfl, ht, q⟩ := h
    have hr2 : Room 2 _ := hr.mono (by decide)
    obtain ⟨fd0, F0, b0⟩ := I0
    obtain ⟨fd1, F1, b1⟩ := I1
    obtain ⟨fd2, F2, b2⟩ := I2
    obtain ⟨fd3, F3, b3⟩ := I3
    obtain ⟨fd4, F4, b4⟩ := I4
    obtain ⟨fd5, F5, b5⟩ := I5
    obtain ⟨fd6, F6, b6⟩ := I6
    refine ⟨_, pss_cons (ps_if (pt_not (pt_val (pe_fn IS hr rfl (pa_cons (pv 0) pa_nil)))) (pss_one ps_never) pss_nil)
      (pss_cons (ps_if (pt_cmpR op_eq (pe_ix ix_tup (pv 0) pe_int (fun _ _ => rfl)) pe_str (nomark _)) (pss_one (ps_ret (pe_make (T.mk_ 0 (by decide)) F0 hr2 rfl (T.mg 0 (by decide)) b0 .nil pass0 (pa_cons (pe_ix ix_tup (pv 0) pe_int (fun _ _ => rfl)) (pa_cons (pe_ix ix_tup (pv 0) pe_int (fun _ _ => rfl)) pa_nil))))) pss_nil)
      (pss_cons (ps_if (pt_cmpR op_eq (pe_ix ix_tup (pv 0) pe_int (fun _ _ => rfl)) pe_str (nomark _)) (pss_one (ps_ret (pe_make (T.mk_ 1 (by decide)) F1 hr2 rfl (T.mg 1 (by decide)) b1 .nil pass0 (pa_cons (pe_ix ix_tup (pv 0) pe_int (fun _ _ => rfl)) (pa_cons (pe_ix ix_tup (pv 0) pe_int (fun _ _ => rfl)) pa_nil))))) pss_nil)
      (pss_cons (ps_if (pt_cmpR op_eq (pe_ix ix_tup (pv 0) pe_int (fun _ _ => rfl)) pe_str (nomark _)) (pss_one (ps_ret (pe_make (T.mk_ 2 (by decide)) F2 hr2 rfl (T.mg 2 (by decide)) b2 .nil pass0 (pa_cons (pe_ix ix_tup (pv 0) pe_int (fun _ _ => rfl)) (pa_cons (pe_ix ix_tup (pv 0) pe_int (fun _ _ => rfl)) pa_nil))))) pss_nil)
      (pss_cons (ps_if (pt_cmpR op_eq (pe_ix ix_tup (pv 0) pe_int (fun _ _ => rfl)) pe_str (nomark _)) (pss_one (ps_ret (pe_make (T.mk_ 3 (by decide)) F3 hr2 rfl (T.mg 3 (by decide)) b3 .nil pass0 (pa_cons (pe_ix ix_tup (pv 0) pe_int (fun _ _ => rfl)) (pa_cons (pe_ix ix_tup (pv 0) pe_int (fun _ _ => rfl)) (pa_cons (pe_ix ix_tup (pv 0) pe_int (fun _ _ => rfl)) (pa_cons (pe_ix ix_tup (pv 0) pe_int (fun _ _ => rfl)) pa_nil))))))) pss_nil)
      (pss_cons (ps_if (pt_cmpR op_eq (pe_ix ix_tup (pv 0) pe_int (fun _ _ => rfl)) pe_str (nomark _)) (pss_one (ps_ret (pe_make (T.mk_ 4 (by decide)) F4 hr2 rfl (T.mg 4 (by decide)) b4 .nil pass0 (pa_cons (pe_ix ix_tup (pv 0) pe_int (fun _ _ => rfl)) (pa_cons (pe_ix ix_tup (pv 0) pe_int (fun _ _ => rfl)) pa_nil))))) pss_nil)
      (pss_cons (ps_if (pt_cmpR op_eq (pe_ix ix_tup (pv 0) pe_int (fun _ _ => rfl)) pe_str (nomark _)) (pss_one (ps_ret (pe_make (T.mk_ 5 (by decide)) F5 hr2 rfl (T.mg 5 (by decide)) b5 .nil pass0 (pa_cons (pe_ix ix_tup (pv 0) pe_int (fun _ _ => rfl)) (pa_cons (pe_ix ix_tup (pv 0) pe_int (fun _ _ => rfl)) pa_nil))))) pss_nil)
      (pss_one (ps_ret (pe_make (T.mk_ 6 (by decide)) F6 hr2 rfl (T.mg 6 (by decide)) b6 .nil pass0 (pa_cons (pe_ix ix_tup (pv 0) pe_int (fun _ _ => rfl)) (pa_cons (pe_ix ix_tup (pv 0) pe_int (fun _ _ => rfl)) pa_nil))))))))))), ?_⟩
    refine ⟨_, rfl, v, _, rfl, ht.tol, fun H1 s1 => ⟨_, rfl, iteF ?_⟩⟩
    have ht1 := ht.kt (kt_same s1)
    cases ht1 with
    | @get p n s x hp hn hs hc =>
      refine ⟨_, rfl, p, _, _, _, rfl, rfl, SqT.of hp, rfl, rfl, _, rfl, iteA (by decide +kernel) ?_⟩
      refine ⟨_, rfl, p, _, _, _, rfl, rfl, SqT.of hp, rfl, _, rfl, p, _, _, _, rfl, rfl, SqT.of hp, rfl, fun x dx nx nd ne => ⟨x, dx, _, _, rfl, upd_same, rfl, ?_⟩⟩
      exact q _ _ (s1.trans (same_mut nx (same_mut nx (same_mut nx (same_new nd))))) (.get upd_same ((same_mut nx (same_mut nx (same_mut nx (same_new nd)))) _ _ hp) hn (hs.kt (kt_same (same_mut nx (same_mut nx (same_mut nx (same_new nd)))))) hc)
    | @ask p n s x hp hn hs hc =>
      refine ⟨_, rfl, p, _, _, _, rfl, rfl, SqT.of hp, rfl, rfl, _, rfl, iteB (by decide +kernel) ?_⟩
      refine ⟨_, rfl, p, _, _, _, rfl, rfl, SqT.of hp, rfl, rfl, _, rfl, iteA (by decide +kernel) ?_⟩
      refine ⟨_, rfl, p, _, _, _, rfl, rfl, SqT.of hp, rfl, _, rfl, p, _, _, _, rfl, rfl, SqT.of hp, rfl, fun x dx nx nd ne => ⟨x, dx, _, _, rfl, upd_same, rfl, ?_⟩⟩
      exact q _ _ (s1.trans (same_mut nx (same_mut nx (same_mut nx (same_new nd))))) (.ask upd_same ((same_mut nx (same_mut nx (same_mut nx (same_new nd)))) _ _ hp) hn (hs.kt (kt_same (same_mut nx (same_mut nx (same_mut nx (same_new nd)))))) hc)
    | @cell p n s x hp hn hs hc =>
      refine ⟨_, rfl, p, _, _, _, rfl, rfl, SqT.of hp, rfl, rfl, _, rfl, iteB (by decide +kernel) ?_⟩
      refine ⟨_, rfl, p, _, _, _, rfl, rfl, SqT.of hp, rfl, rfl, _, rfl, iteB (by decide +kernel) ?_⟩
      refine ⟨_, rfl, p, _, _, _, rfl, rfl, SqT.of hp, rfl, rfl, _, rfl, iteA (by decide +kernel) ?_⟩
      refine ⟨_, rfl, p, _, _, _, rfl, rfl, SqT.of hp, rfl, _, rfl, p, _, _, _, rfl, rfl, SqT.of hp, rfl, fun x dx nx nd ne => ⟨x, dx, _, _, rfl, upd_same, rfl, ?_⟩⟩
      exact q _ _ (s1.trans (same_mut nx (same_mut nx (same_mut nx (same_new nd))))) (.cell upd_same ((same_mut nx (same_mut nx (same_mut nx (same_new nd)))) _ _ hp) hn (hs.kt (kt_same (same_mut nx (same_mut nx (same_mut nx (same_new nd)))))) hc)
    | @two p n f s s' x y hp hn hf hs hc hs2 hc2 =>
      refine ⟨_, rfl, p, _, _, _, rfl, rfl, SqT.of hp, rfl, rfl, _, rfl, iteB (by decide +kernel) ?_⟩
      refine ⟨_, rfl, p, _, _, _, rfl, rfl, SqT.of hp, rfl, rfl, _, rfl, iteB (by decide +kernel) ?_⟩
      refine ⟨_, rfl, p, _, _, _, rfl, rfl, SqT.of hp, rfl, rfl, _, rfl, iteB (by decide +kernel) ?_⟩
      refine ⟨_, rfl, p, _, _, _, rfl, rfl, SqT.of hp, rfl, rfl, _, rfl, iteA (by decide +kernel) ?_⟩
      refine ⟨_, rfl, p, _, _, _, rfl, rfl, SqT.of hp, rfl, _, rfl, p, _, _, _, rfl, rfl, SqT.of hp, rfl, _, rfl, p, _, _, _, rfl, rfl, SqT.of hp, rfl, _, rfl, p, _, _, _, rfl, rfl, SqT.of hp, rfl, fun x dx nx nd ne => ⟨x, dx, _, _, _, _, rfl, upd_same, rfl, ?_⟩⟩
      exact q _ _ (s1.trans (same_mut nx (same_mut nx (same_mut nx (same_mut nx (same_mut nx (same_new nd))))))) (.two upd_same ((same_mut nx (same_mut nx (same_mut nx (same_mut nx (same_mut nx (same_new nd)))))) _ _ hp) hn hf (hs.kt (kt_same (same_mut nx (same_mut nx (same_mut nx (same_mut nx (same_mut nx (same_new nd)))))))) hc (hs2.kt (kt_same (same_mut nx (same_mut nx (same_mut nx (same_mut nx (same_mut nx (same_new nd)))))))) hc2)
    | @put p s s' x y hp hs hc hs2 hc2 =>
      refine ⟨_, rfl, p, _, _, _, rfl, rfl, SqT.of hp, rfl, rfl, _, rfl, iteB (by decide +kernel) ?_⟩
      refine ⟨_, rfl, p, _, _, _, rfl, rfl, SqT.of hp, rfl, rfl, _, rfl, iteB (by decide +kernel) ?_⟩
      refine ⟨_, rfl, p, _, _, _, rfl, rfl, SqT.of hp, rfl, rfl, _, rfl, iteB (by decide +kernel) ?_⟩
      refine ⟨_, rfl, p, _, _, _, rfl, rfl, SqT.of hp, rfl, rfl, _, rfl, iteB (by decide +kernel) ?_⟩
      refine ⟨_, rfl, p, _, _, _, rfl, rfl, SqT.of hp, rfl, rfl, _, rfl, iteA (by decide +kernel) ?_⟩
      refine ⟨_, rfl, p, _, _, _, rfl, rfl, SqT.of hp, rfl, _, rfl, p, _, _, _, rfl, rfl, SqT.of hp, rfl, fun x dx nx nd ne => ⟨x, dx, _, _, rfl, upd_same, rfl, ?_⟩⟩
      exact q _ _ (s1.trans (same_mut nx (same_mut nx (same_mut nx (same_new nd))))) (.put upd_same ((same_mut nx (same_mut nx (same_mut nx (same_new nd)))) _ _ hp) (hs.kt (kt_same (same_mut nx (same_mut nx (same_mut nx (same_new nd)))))) hc (hs2.kt (kt_same (same_mut nx (same_mut nx (same_mut nx (same_new nd)))))) hc2)
    | @tell p s s' x y hp hs hc hs2 hc2 =>
      refine ⟨_, rfl, p, _, _, _, rfl, rfl, SqT.of hp, rfl, rfl, _, rfl, iteB (by decide +kernel) ?_⟩
      refine ⟨_, rfl, p, _, _, _, rfl, rfl, SqT.of hp, rfl, rfl, _, rfl, iteB (by decide +kernel) ?_⟩
      refine ⟨_, rfl, p, _, _, _, rfl, rfl, SqT.of hp, rfl, rfl, _, rfl, iteB (by decide +kernel) ?_⟩
      refine ⟨_, rfl, p, _, _, _, rfl, rfl, SqT.of hp, rfl, rfl, _, rfl, iteB (by decide +kernel) ?_⟩
      refine ⟨_, rfl, p, _, _, _, rfl, rfl, SqT.of hp, rfl, rfl, _, rfl, iteB (by decide +kernel) ?_⟩
      refine ⟨_, rfl, p, _, _, _, rfl, rfl, SqT.of hp, rfl, rfl, _, rfl, iteA (by decide +kernel) ?_⟩
      refine ⟨_, rfl, p, _, _, _, rfl, rfl, SqT.of hp, rfl, _, rfl, p, _, _, _, rfl, rfl, SqT.of hp, rfl, fun x dx nx nd ne => ⟨x, dx, _, _, rfl, upd_same, rfl, ?_⟩⟩
      exact q _ _ (s1.trans (same_mut nx (same_mut nx (same_mut nx (same_new nd))))) (.tell upd_same ((same_mut nx (same_mut nx (same_mut nx (same_new nd)))) _ _ hp) (hs.kt (kt_same (same_mut nx (same_mut nx (same_mut nx (same_new nd)))))) hc (hs2.kt (kt_same (same_mut nx (same_mut nx (same_mut nx (same_new nd)))))) hc2)
    | @store p s s' x y hp hs hc hs2 hc2 =>
      refine ⟨_, rfl, p, _, _, _, rfl, rfl, SqT.of hp, rfl, rfl, _, rfl, iteB (by decide +kernel) ?_⟩
      refine ⟨_, rfl, p, _, _, _, rfl, rfl, SqT.of hp, rfl, rfl, _, rfl, iteB (by decide +kernel) ?_⟩
      refine ⟨_, rfl, p, _, _, _, rfl, rfl, SqT.of hp, rfl, rfl, _, rfl, iteB (by decide +kernel) ?_⟩
      refine ⟨_, rfl, p, _, _, _, rfl, rfl, SqT.of hp, rfl, rfl, _, rfl, iteB (by decide +kernel) ?_⟩
      refine ⟨_, rfl, p, _, _, _, rfl, rfl, SqT.of hp, rfl, rfl, _, rfl, iteB (by decide +kernel) ?_⟩
      refine ⟨_, rfl, p, _, _, _, rfl, rfl, SqT.of hp, rfl, rfl, _, rfl, iteB (by decide +kernel) ?_⟩
      refine ⟨_, rfl, p, _, _, _, rfl, rfl, SqT.of hp, rfl, _, rfl, p, _, _, _, rfl, rfl, SqT.of hp, rfl, fun x dx nx nd ne => ⟨x, dx, _, _, rfl, upd_same, rfl, ?_⟩⟩
      exact q _ _ (s1.trans (same_mut nx (same_mut nx (same_mut nx (same_new nd))))) (.store upd_same ((same_mut nx (same_mut nx (same_mut nx (same_new nd)))) _ _ hp) (hs.kt (kt_same (same_mut nx (same_mut nx (same_mut nx (same_new nd)))))) hc (hs2.kt (kt_same (same_mut nx (same_mut nx (same_mut nx (same_new nd)))))) hc2)
theorem scByClass : FnScope ["_law_step_here"] ["_law_step_here"] (defScope sByClass) := ⟨rfl, rfl, rfl, by decide +kernel, rfl, by decide +kernel, by decide +kernel⟩
set_option maxHeartbeats 4000000 in
theorem ok_byClass {f : Addr} {fd : FuncData} (F : Fun K "_law_by_class" "_law_by_class" sByClass f fd) (T : Ct K mg C fi) (I0 : IniOk P w K mg base (fi 0) ["self", "to", "sel"] (spI2 (C 0) "to" "sel")) (I1 : IniOk P w K mg base (fi 1) ["self", "to", "sel"] (spI2 (C 1) "to" "sel")) (I2 : IniOk P w K mg base (fi 2) ["self", "to", "source"] (spI2 (C 2) "to" "source")) (I3 : IniOk P w K mg base (fi 3) ["self", "to", "op", "one", "other"] (spI4 (C 3) "to" "op" "one" "other")) (I4 : IniOk P w K mg base (fi 4) ["self", "sel", "source"] (spI2 (C 4) "sel" "source")) (I5 : IniOk P w K mg base (fi 5) ["self", "sel", "source"] (spI2 (C 5) "sel" "source")) (I6 : IniOk P w K mg base (fi 6) ["self", "at", "source"] (spI2 (C 6) "at" "source")) :
    FnOk P w K mg base CX0 3 f fd ["_law_step_here"] (spStepOf C) := by
  refine F.ok scByClass (fun vs H Q E h => ?_) (fun cdv A outer s H vs Q E hr h => ?_)
  · obtain ⟨v, m, rfl, _⟩ := h
    rfl
  · obtain ⟨v, m, rfl, ht, q⟩ := h
    have hr2 : Room 2 _ := hr
    obtain ⟨fd0, F0, b0⟩ := I0
    obtain ⟨fd1, F1, b1⟩ := I1
    obtain ⟨fd2, F2, b2⟩ := I2
    obtain ⟨fd3, F3, b3⟩ := I3
    obtain ⟨fd4, F4, b4⟩ := I4
    obtain ⟨fd5, F5, b5⟩ := I5
    obtain ⟨fd6, F6, b6⟩ := I6
    refine ⟨_, (pss_cons (ps_if (pt_cmpR op_eq (pe_ix ix_tup (pv 0) pe_int (fun _ _ => rfl)) pe_str (nomark _)) (pss_one (ps_ret (pe_make (T.mk_ 0 (by decide)) F0 hr2 rfl (T.mg 0 (by decide)) b0 .nil pass0 (pa_cons (pe_ix ix_tup (pv 0) pe_int (fun _ _ => rfl)) (pa_cons (pe_ix ix_tup (pv 0) pe_int (fun _ _ => rfl)) pa_nil))))) pss_nil)
      (pss_cons (ps_if (pt_cmpR op_eq (pe_ix ix_tup (pv 0) pe_int (fun _ _ => rfl)) pe_str (nomark _)) (pss_one (ps_ret (pe_make (T.mk_ 1 (by decide)) F1 hr2 rfl (T.mg 1 (by decide)) b1 .nil pass0 (pa_cons (pe_ix ix_tup (pv 0) pe_int (fun _ _ => rfl)) (pa_cons (pe_ix ix_tup (pv 0) pe_int (fun _ _ => rfl)) pa_nil))))) pss_nil)
      (pss_cons (ps_if (pt_cmpR op_eq (pe_ix ix_tup (pv 0) pe_int (fun _ _ => rfl)) pe_str (nomark _)) (pss_one (ps_ret (pe_make (T.mk_ 2 (by decide)) F2 hr2 rfl (T.mg 2 (by decide)) b2 .nil pass0 (pa_cons (pe_ix ix_tup (pv 0) pe_int (fun _ _ => rfl)) (pa_cons (pe_ix ix_tup (pv 0) pe_int (fun _ _ => rfl)) pa_nil))))) pss_nil)
      (pss_cons (ps_if (pt_cmpR op_eq (pe_ix ix_tup (pv 0) pe_int (fun _ _ => rfl)) pe_str (nomark _)) (pss_one (ps_ret (pe_make (T.mk_ 3 (by decide)) F3 hr2 rfl (T.mg 3 (by decide)) b3 .nil pass0 (pa_cons (pe_ix ix_tup (pv 0) pe_int (fun _ _ => rfl)) (pa_cons (pe_ix ix_tup (pv 0) pe_int (fun _ _ => rfl)) (pa_cons (pe_ix ix_tup (pv 0) pe_int (fun _ _ => rfl)) (pa_cons (pe_ix ix_tup (pv 0) pe_int (fun _ _ => rfl)) pa_nil))))))) pss_nil)
      (pss_cons (ps_if (pt_cmpR op_eq (pe_ix ix_tup (pv 0) pe_int (fun _ _ => rfl)) pe_str (nomark _)) (pss_one (ps_ret (pe_make (T.mk_ 4 (by decide)) F4 hr2 rfl (T.mg 4 (by decide)) b4 .nil pass0 (pa_cons (pe_ix ix_tup (pv 0) pe_int (fun _ _ => rfl)) (pa_cons (pe_ix ix_tup (pv 0) pe_int (fun _ _ => rfl)) pa_nil))))) pss_nil)
      (pss_cons (ps_if (pt_cmpR op_eq (pe_ix ix_tup (pv 0) pe_int (fun _ _ => rfl)) pe_str (nomark _)) (pss_one (ps_ret (pe_make (T.mk_ 5 (by decide)) F5 hr2 rfl (T.mg 5 (by decide)) b5 .nil pass0 (pa_cons (pe_ix ix_tup (pv 0) pe_int (fun _ _ => rfl)) (pa_cons (pe_ix ix_tup (pv 0) pe_int (fun _ _ => rfl)) pa_nil))))) pss_nil)
      (pss_one (ps_ret (pe_make (T.mk_ 6 (by decide)) F6 hr2 rfl (T.mg 6 (by decide)) b6 .nil pass0 (pa_cons (pe_ix ix_tup (pv 0) pe_int (fun _ _ => rfl)) (pa_cons (pe_ix ix_tup (pv 0) pe_int (fun _ _ => rfl)) pa_nil))))))))))), ?_⟩
    cases ht with
    | @get p n s x hp hn hs hc =>
      refine ⟨_, rfl, p, _, _, _, rfl, rfl, SqT.of hp, rfl, rfl, _, rfl, iteA (by decide +kernel) ?_⟩
      refine ⟨_, rfl, p, _, _, _, rfl, rfl, SqT.of hp, rfl, _, rfl, p, _, _, _, rfl, rfl, SqT.of hp, rfl, fun x dx nx nd ne => ⟨x, dx, _, _, rfl, upd_same, rfl, ?_⟩⟩
      exact q _ _ (same_mut nx (same_mut nx (same_mut nx (same_new nd)))) (.get upd_same ((same_mut nx (same_mut nx (same_mut nx (same_new nd)))) _ _ hp) hn (hs.kt (kt_same (same_mut nx (same_mut nx (same_mut nx (same_new nd)))))) hc)
    | @ask p n s x hp hn hs hc =>
      refine ⟨_, rfl, p, _, _, _, rfl, rfl, SqT.of hp, rfl, rfl, _, rfl, iteB (by decide +kernel) ?_⟩
      refine ⟨_, rfl, p, _, _, _, rfl, rfl, SqT.of hp, rfl, rfl, _, rfl, iteA (by decide +kernel) ?_⟩
      refine ⟨_, rfl, p, _, _, _, rfl, rfl, SqT.of hp, rfl, _, rfl, p, _, _, _, rfl, rfl, SqT.of hp, rfl, fun x dx nx nd ne => ⟨x, dx, _, _, rfl, upd_same, rfl, ?_⟩⟩
      exact q _ _ (same_mut nx (same_mut nx (same_mut nx (same_new nd)))) (.ask upd_same ((same_mut nx (same_mut nx (same_mut nx (same_new nd)))) _ _ hp) hn (hs.kt (kt_same (same_mut nx (same_mut nx (same_mut nx (same_new nd)))))) hc)
    | @cell p n s x hp hn hs hc =>
      refine ⟨_, rfl, p, _, _, _, rfl, rfl, SqT.of hp, rfl, rfl, _, rfl, iteB (by decide +kernel) ?_⟩
      refine ⟨_, rfl, p, _, _, _, rfl, rfl, SqT.of hp, rfl, rfl, _, rfl, iteB (by decide +kernel) ?_⟩
      refine ⟨_, rfl, p, _, _, _, rfl, rfl, SqT.of hp, rfl, rfl, _, rfl, iteA (by decide +kernel) ?_⟩
      refine ⟨_, rfl, p, _, _, _, rfl, rfl, SqT.of hp, rfl, _, rfl, p, _, _, _, rfl, rfl, SqT.of hp, rfl, fun x dx nx nd ne => ⟨x, dx, _, _, rfl, upd_same, rfl, ?_⟩⟩
      exact q _ _ (same_mut nx (same_mut nx (same_mut nx (same_new nd)))) (.cell upd_same ((same_mut nx (same_mut nx (same_mut nx (same_new nd)))) _ _ hp) hn (hs.kt (kt_same (same_mut nx (same_mut nx (same_mut nx (same_new nd)))))) hc)
    | @two p n f s s' x y hp hn hf hs hc hs2 hc2 =>
      refine ⟨_, rfl, p, _, _, _, rfl, rfl, SqT.of hp, rfl, rfl, _, rfl, iteB (by decide +kernel) ?_⟩
      refine ⟨_, rfl, p, _, _, _, rfl, rfl, SqT.of hp, rfl, rfl, _, rfl, iteB (by decide +kernel) ?_⟩
      refine ⟨_, rfl, p, _, _, _, rfl, rfl, SqT.of hp, rfl, rfl, _, rfl, iteB (by decide +kernel) ?_⟩
      refine ⟨_, rfl, p, _, _, _, rfl, rfl, SqT.of hp, rfl, rfl, _, rfl, iteA (by decide +kernel) ?_⟩
      refine ⟨_, rfl, p, _, _, _, rfl, rfl, SqT.of hp, rfl, _, rfl, p, _, _, _, rfl, rfl, SqT.of hp, rfl, _, rfl, p, _, _, _, rfl, rfl, SqT.of hp, rfl, _, rfl, p, _, _, _, rfl, rfl, SqT.of hp, rfl, fun x dx nx nd ne => ⟨x, dx, _, _, _, _, rfl, upd_same, rfl, ?_⟩⟩
      exact q _ _ (same_mut nx (same_mut nx (same_mut nx (same_mut nx (same_mut nx (same_new nd)))))) (.two upd_same ((same_mut nx (same_mut nx (same_mut nx (same_mut nx (same_mut nx (same_new nd)))))) _ _ hp) hn hf (hs.kt (kt_same (same_mut nx (same_mut nx (same_mut nx (same_mut nx (same_mut nx (same_new nd)))))))) hc (hs2.kt (kt_same (same_mut nx (same_mut nx (same_mut nx (same_mut nx (same_mut nx (same_new nd)))))))) hc2)
    | @put p s s' x y hp hs hc hs2 hc2 =>
      refine ⟨_, rfl, p, _, _, _, rfl, rfl, SqT.of hp, rfl, rfl, _, rfl, iteB (by decide +kernel) ?_⟩
      refine ⟨_, rfl, p, _, _, _, rfl, rfl, SqT.of hp, rfl, rfl, _, rfl, iteB (by decide +kernel) ?_⟩
      refine ⟨_, rfl, p, _, _, _, rfl, rfl, SqT.of hp, rfl, rfl, _, rfl, iteB (by decide +kernel) ?_⟩
      refine ⟨_, rfl, p, _, _, _, rfl, rfl, SqT.of hp, rfl, rfl, _, rfl, iteB (by decide +kernel) ?_⟩
      refine ⟨_, rfl, p, _, _, _, rfl, rfl, SqT.of hp, rfl, rfl, _, rfl, iteA (by decide +kernel) ?_⟩
      refine ⟨_, rfl, p, _, _, _, rfl, rfl, SqT.of hp, rfl, _, rfl, p, _, _, _, rfl, rfl, SqT.of hp, rfl, fun x dx nx nd ne => ⟨x, dx, _, _, rfl, upd_same, rfl, ?_⟩⟩
      exact q _ _ (same_mut nx (same_mut nx (same_mut nx (same_new nd)))) (.put upd_same ((same_mut nx (same_mut nx (same_mut nx (same_new nd)))) _ _ hp) (hs.kt (kt_same (same_mut nx (same_mut nx (same_mut nx (same_new nd)))))) hc (hs2.kt (kt_same (same_mut nx (same_mut nx (same_mut nx (same_new nd)))))) hc2)
    | @tell p s s' x y hp hs hc hs2 hc2 =>
      refine ⟨_, rfl, p, _, _, _, rfl, rfl, SqT.of hp, rfl, rfl, _, rfl, iteB (by decide +kernel) ?_⟩
      refine ⟨_, rfl, p, _, _, _, rfl, rfl, SqT.of hp, rfl, rfl, _, rfl, iteB (by decide +kernel) ?_⟩
      refine ⟨_, rfl, p, _, _, _, rfl, rfl, SqT.of hp, rfl, rfl, _, rfl, iteB (by decide +kernel) ?_⟩
      refine ⟨_, rfl, p, _, _, _, rfl, rfl, SqT.of hp, rfl, rfl, _, rfl, iteB (by decide +kernel) ?_⟩
      refine ⟨_, rfl, p, _, _, _, rfl, rfl, SqT.of hp, rfl, rfl, _, rfl, iteB (by decide +kernel) ?_⟩
      refine ⟨_, rfl, p, _, _, _, rfl, rfl, SqT.of hp, rfl, rfl, _, rfl, iteA (by decide +kernel) ?_⟩
      refine ⟨_, rfl, p, _, _, _, rfl, rfl, SqT.of hp, rfl, _, rfl, p, _, _, _, rfl, rfl, SqT.of hp, rfl, fun x dx nx nd ne => ⟨x, dx, _, _, rfl, upd_same, rfl, ?_⟩⟩
      exact q _ _ (same_mut nx (same_mut nx (same_mut nx (same_new nd)))) (.tell upd_same ((same_mut nx (same_mut nx (same_mut nx (same_new nd)))) _ _ hp) (hs.kt (kt_same (same_mut nx (same_mut nx (same_mut nx (same_new nd)))))) hc (hs2.kt (kt_same (same_mut nx (same_mut nx (same_mut nx (same_new nd)))))) hc2)
    | @store p s s' x y hp hs hc hs2 hc2 =>
      refine ⟨_, rfl, p, _, _, _, rfl, rfl, SqT.of hp, rfl, rfl, _, rfl, iteB (by decide +kernel) ?_⟩
      refine ⟨_, rfl, p, _, _, _, rfl, rfl, SqT.of hp, rfl, rfl, _, rfl, iteB (by decide +kernel) ?_⟩
      refine ⟨_, rfl, p, _, _, _, rfl, rfl, SqT.of hp, rfl, rfl, _, rfl, iteB (by decide +kernel) ?_⟩
      refine ⟨_, rfl, p, _, _, _, rfl, rfl, SqT.of hp, rfl, rfl, _, rfl, iteB (by decide +kernel) ?_⟩
      refine ⟨_, rfl, p, _, _, _, rfl, rfl, SqT.of hp, rfl, rfl, _, rfl, iteB (by decide +kernel) ?_⟩
      refine ⟨_, rfl, p, _, _, _, rfl, rfl, SqT.of hp, rfl, rfl, _, rfl, iteB (by decide +kernel) ?_⟩
      refine ⟨_, rfl, p, _, _, _, rfl, rfl, SqT.of hp, rfl, _, rfl, p, _, _, _, rfl, rfl, SqT.of hp, rfl, fun x dx nx nd ne => ⟨x, dx, _, _, rfl, upd_same, rfl, ?_⟩⟩
      exact q _ _ (same_mut nx (same_mut nx (same_mut nx (same_new nd)))) (.store upd_same ((same_mut nx (same_mut nx (same_mut nx (same_new nd)))) _ _ hp) (hs.kt (kt_same (same_mut nx (same_mut nx (same_mut nx (same_new nd)))))) hc (hs2.kt (kt_same (same_mut nx (same_mut nx (same_mut nx (same_new nd)))))) hc2)
end
end L3

set_option Elab.async false
set_option linter.all false
set_option maxRecDepth 100000
namespace L3
open PySem L2
/-! ### targets, sources, uses_way, of each class -/
def spTg (C : Nat → Addr) (ks : List Nat) : Sp := fun vs H Q _ => ∃ v m, vs = [v] ∧ StepV C H v m ∧ m.kind ∈ ks ∧ ∀ p, H p = none → Q (.ref p) (upd H p (.lst (natV (tgt m))))
def spSo (C : Nat → Addr) (ks : List Nat) : Sp := fun vs H Q _ => ∃ v m, vs = [v] ∧ StepV C H v m ∧ m.kind ∈ ks ∧ ∀ p us, H p = none → Paired (SrcOK H) us m.src → Q (.ref p) (upd H p (.lst us))
def spUw (C : Nat → Addr) (ks : List Nat) : Sp := fun vs H Q _ => ∃ v m, vs = [v] ∧ StepV C H v m ∧ m.kind ∈ ks ∧ Q (.bl (decide (m.kind ≠ 3))) H
section
variable {P : Program} {w : World} {K : PySem.W.Frag} {mg : Str → Option Value} {base : Heap} {C fi : Nat → Addr}
abbrev sTgS : Stmt := inClass (top 31) 3
theorem scTgS : FnScope ["self"] ["self"] (defScope sTgS) := ⟨rfl, rfl, rfl, by decide +kernel, rfl, by decide +kernel, by decide +kernel⟩
theorem ok_TgS {f : Addr} {fd : FuncData} (F : Fun K "targets" "Step.targets" sTgS f fd) (T : Ct K mg C fi) : FnOk P w K mg base CX0 1 f fd ["self"] (spTg C [4, 5, 6]) := by
  refine F.ok scTgS (fun vs H Q E h => ?_) (fun cdv A outer s H vs Q E hr h => ?_)
  · obtain ⟨v, m, rfl, _⟩ := h
    rfl
  · obtain ⟨v, m, rfl, hv, hk, q⟩ := h
    refine ⟨_, pss_one (ps_ret (pe_lst pa_nil)), ?_⟩
    cases hv with
    | @get a dx n v ha hn =>
      exact absurd hk (by show ¬ 0 ∈ ([4, 5, 6] : List Nat); decide)
    | @ask a dx n v ha hn =>
      exact absurd hk (by show ¬ 1 ∈ ([4, 5, 6] : List Nat); decide)
    | @cell a dx n s o ha hn hs =>
      exact absurd hk (by show ¬ 2 ∈ ([4, 5, 6] : List Nat); decide)
    | @two a dx n f s s' o o' ha hn hs hs2 =>
      exact absurd hk (by show ¬ 3 ∈ ([4, 5, 6] : List Nat); decide)
    | @put a dx v s o ha hs =>
      exact ⟨(by show 0 ≤ sizeLine; decide), fun p hp => q p hp⟩
    | @tell a dx v s o ha hs =>
      exact ⟨(by show 0 ≤ sizeLine; decide), fun p hp => q p hp⟩
    | @store a dx s s' o o' ha hs hs2 =>
      exact ⟨(by show 0 ≤ sizeLine; decide), fun p hp => q p hp⟩
abbrev sTg0 : Stmt := inClass (top 32) 4
theorem scTg0 : FnScope ["self"] ["self"] (defScope sTg0) := ⟨rfl, rfl, rfl, by decide +kernel, rfl, by decide +kernel, by decide +kernel⟩
theorem ok_Tg0 {f : Addr} {fd : FuncData} (F : Fun K "targets" "Get.targets" sTg0 f fd) (T : Ct K mg C fi) : FnOk P w K mg base CX0 1 f fd ["self"] (spTg C [0]) := by
  refine F.ok scTg0 (fun vs H Q E h => ?_) (fun cdv A outer s H vs Q E hr h => ?_)
  · obtain ⟨v, m, rfl, _⟩ := h
    rfl
  · obtain ⟨v, m, rfl, hv, hk, q⟩ := h
    refine ⟨_, pss_one (ps_ret (pe_lst (pa_cons (pe_fld (pv 0) rfl) pa_nil))), ?_⟩
    cases hv with
    | @get a dx n v ha hn =>
      exact ⟨_, rfl, a, C 0, dx, _, _, rfl, ha, T.cls 0 (by decide), T.na 0 (by decide) "to" (by decide +kernel), rfl, (by show 1 ≤ sizeLine; decide), fun p hp => q p hp⟩
    | @ask a dx n v ha hn =>
      exact absurd hk (by show ¬ 1 ∈ ([0] : List Nat); decide)
    | @cell a dx n s o ha hn hs =>
      exact absurd hk (by show ¬ 2 ∈ ([0] : List Nat); decide)
    | @two a dx n f s s' o o' ha hn hs hs2 =>
      exact absurd hk (by show ¬ 3 ∈ ([0] : List Nat); decide)
    | @put a dx v s o ha hs =>
      exact absurd hk (by show ¬ 4 ∈ ([0] : List Nat); decide)
    | @tell a dx v s o ha hs =>
      exact absurd hk (by show ¬ 5 ∈ ([0] : List Nat); decide)
    | @store a dx s s' o o' ha hs hs2 =>
      exact absurd hk (by show ¬ 6 ∈ ([0] : List Nat); decide)
abbrev sTg1 : Stmt := inClass (top 33) 4
theorem scTg1 : FnScope ["self"] ["self"] (defScope sTg1) := ⟨rfl, rfl, rfl, by decide +kernel, rfl, by decide +kernel, by decide +kernel⟩
theorem ok_Tg1 {f : Addr} {fd : FuncData} (F : Fun K "targets" "Ask.targets" sTg1 f fd) (T : Ct K mg C fi) : FnOk P w K mg base CX0 1 f fd ["self"] (spTg C [1]) := by
  refine F.ok scTg1 (fun vs H Q E h => ?_) (fun cdv A outer s H vs Q E hr h => ?_)
  · obtain ⟨v, m, rfl, _⟩ := h
    rfl
  · obtain ⟨v, m, rfl, hv, hk, q⟩ := h
    refine ⟨_, pss_one (ps_ret (pe_lst (pa_cons (pe_fld (pv 0) rfl) pa_nil))), ?_⟩
    cases hv with
    | @get a dx n v ha hn =>
      exact absurd hk (by show ¬ 0 ∈ ([1] : List Nat); decide)
    | @ask a dx n v ha hn =>
      exact ⟨_, rfl, a, C 1, dx, _, _, rfl, ha, T.cls 1 (by decide), T.na 1 (by decide) "to" (by decide +kernel), rfl, (by show 1 ≤ sizeLine; decide), fun p hp => q p hp⟩
    | @cell a dx n s o ha hn hs =>
      exact absurd hk (by show ¬ 2 ∈ ([1] : List Nat); decide)
    | @two a dx n f s s' o o' ha hn hs hs2 =>
      exact absurd hk (by show ¬ 3 ∈ ([1] : List Nat); decide)
    | @put a dx v s o ha hs =>
      exact absurd hk (by show ¬ 4 ∈ ([1] : List Nat); decide)
    | @tell a dx v s o ha hs =>
      exact absurd hk (by show ¬ 5 ∈ ([1] : List Nat); decide)
    | @store a dx s s' o o' ha hs hs2 =>
      exact absurd hk (by show ¬ 6 ∈ ([1] : List Nat); decide)
abbrev sTg2 : Stmt := inClass (top 34) 4
theorem scTg2 : FnScope ["self"] ["self"] (defScope sTg2) := ⟨rfl, rfl, rfl, by decide +kernel, rfl, by decide +kernel, by decide +kernel⟩
theorem ok_Tg2 {f : Addr} {fd : FuncData} (F : Fun K "targets" "Cell.targets" sTg2 f fd) (T : Ct K mg C fi) : FnOk P w K mg base CX0 1 f fd ["self"] (spTg C [2]) := by
  refine F.ok scTg2 (fun vs H Q E h => ?_) (fun cdv A outer s H vs Q E hr h => ?_)
  · obtain ⟨v, m, rfl, _⟩ := h
    rfl
  · obtain ⟨v, m, rfl, hv, hk, q⟩ := h
    refine ⟨_, pss_one (ps_ret (pe_lst (pa_cons (pe_fld (pv 0) rfl) pa_nil))), ?_⟩
    cases hv with
    | @get a dx n v ha hn =>
      exact absurd hk (by show ¬ 0 ∈ ([2] : List Nat); decide)
    | @ask a dx n v ha hn =>
      exact absurd hk (by show ¬ 1 ∈ ([2] : List Nat); decide)
    | @cell a dx n s o ha hn hs =>
      exact ⟨_, rfl, a, C 2, dx, _, _, rfl, ha, T.cls 2 (by decide), T.na 2 (by decide) "to" (by decide +kernel), rfl, (by show 1 ≤ sizeLine; decide), fun p hp => q p hp⟩
    | @two a dx n f s s' o o' ha hn hs hs2 =>
      exact absurd hk (by show ¬ 3 ∈ ([2] : List Nat); decide)
    | @put a dx v s o ha hs =>
      exact absurd hk (by show ¬ 4 ∈ ([2] : List Nat); decide)
    | @tell a dx v s o ha hs =>
      exact absurd hk (by show ¬ 5 ∈ ([2] : List Nat); decide)
    | @store a dx s s' o o' ha hs hs2 =>
      exact absurd hk (by show ¬ 6 ∈ ([2] : List Nat); decide)
abbrev sTg3 : Stmt := inClass (top 35) 5
theorem scTg3 : FnScope ["self"] ["self"] (defScope sTg3) := ⟨rfl, rfl, rfl, by decide +kernel, rfl, by decide +kernel, by decide +kernel⟩
theorem ok_Tg3 {f : Addr} {fd : FuncData} (F : Fun K "targets" "Two.targets" sTg3 f fd) (T : Ct K mg C fi) : FnOk P w K mg base CX0 1 f fd ["self"] (spTg C [3]) := by
  refine F.ok scTg3 (fun vs H Q E h => ?_) (fun cdv A outer s H vs Q E hr h => ?_)
  · obtain ⟨v, m, rfl, _⟩ := h
    rfl
  · obtain ⟨v, m, rfl, hv, hk, q⟩ := h
    refine ⟨_, pss_one (ps_ret (pe_lst (pa_cons (pe_fld (pv 0) rfl) pa_nil))), ?_⟩
    cases hv with
    | @get a dx n v ha hn =>
      exact absurd hk (by show ¬ 0 ∈ ([3] : List Nat); decide)
    | @ask a dx n v ha hn =>
      exact absurd hk (by show ¬ 1 ∈ ([3] : List Nat); decide)
    | @cell a dx n s o ha hn hs =>
      exact absurd hk (by show ¬ 2 ∈ ([3] : List Nat); decide)
    | @two a dx n f s s' o o' ha hn hs hs2 =>
      exact ⟨_, rfl, a, C 3, dx, _, _, rfl, ha, T.cls 3 (by decide), T.na 3 (by decide) "to" (by decide +kernel), rfl, (by show 1 ≤ sizeLine; decide), fun p hp => q p hp⟩
    | @put a dx v s o ha hs =>
      exact absurd hk (by show ¬ 4 ∈ ([3] : List Nat); decide)
    | @tell a dx v s o ha hs =>
      exact absurd hk (by show ¬ 5 ∈ ([3] : List Nat); decide)
    | @store a dx s s' o o' ha hs hs2 =>
      exact absurd hk (by show ¬ 6 ∈ ([3] : List Nat); decide)
abbrev sSoS : Stmt := inClass (top 31) 1
theorem scSoS : FnScope ["self"] ["self"] (defScope sSoS) := ⟨rfl, rfl, rfl, by decide +kernel, rfl, by decide +kernel, by decide +kernel⟩
theorem ok_SoS {f : Addr} {fd : FuncData} (F : Fun K "sources" "Step.sources" sSoS f fd) (T : Ct K mg C fi) : FnOk P w K mg base CX0 1 f fd ["self"] (spSo C [0, 1]) := by
  refine F.ok scSoS (fun vs H Q E h => ?_) (fun cdv A outer s H vs Q E hr h => ?_)
  · obtain ⟨v, m, rfl, _⟩ := h
    rfl
  · obtain ⟨v, m, rfl, hv, hk, q⟩ := h
    refine ⟨_, pss_one (ps_ret (pe_lst pa_nil)), ?_⟩
    cases hv with
    | @get a dx n v ha hn =>
      exact ⟨(by show 0 ≤ sizeLine; decide), fun p hp => q p [] hp .nil⟩
    | @ask a dx n v ha hn =>
      exact ⟨(by show 0 ≤ sizeLine; decide), fun p hp => q p [] hp .nil⟩
    | @cell a dx n s o ha hn hs =>
      exact absurd hk (by show ¬ 2 ∈ ([0, 1] : List Nat); decide)
    | @two a dx n f s s' o o' ha hn hs hs2 =>
      exact absurd hk (by show ¬ 3 ∈ ([0, 1] : List Nat); decide)
    | @put a dx v s o ha hs =>
      exact absurd hk (by show ¬ 4 ∈ ([0, 1] : List Nat); decide)
    | @tell a dx v s o ha hs =>
      exact absurd hk (by show ¬ 5 ∈ ([0, 1] : List Nat); decide)
    | @store a dx s s' o o' ha hs hs2 =>
      exact absurd hk (by show ¬ 6 ∈ ([0, 1] : List Nat); decide)
abbrev sSo2 : Stmt := inClass (top 34) 3
theorem scSo2 : FnScope ["self"] ["self"] (defScope sSo2) := ⟨rfl, rfl, rfl, by decide +kernel, rfl, by decide +kernel, by decide +kernel⟩
theorem ok_So2 {f : Addr} {fd : FuncData} (F : Fun K "sources" "Cell.sources" sSo2 f fd) (T : Ct K mg C fi) : FnOk P w K mg base CX0 1 f fd ["self"] (spSo C [2]) := by
  refine F.ok scSo2 (fun vs H Q E h => ?_) (fun cdv A outer s H vs Q E hr h => ?_)
  · obtain ⟨v, m, rfl, _⟩ := h
    rfl
  · obtain ⟨v, m, rfl, hv, hk, q⟩ := h
    refine ⟨_, pss_one (ps_ret (pe_lst (pa_cons (pe_fld (pv 0) rfl) pa_nil))), ?_⟩
    cases hv with
    | @get a dx n v ha hn =>
      exact absurd hk (by show ¬ 0 ∈ ([2] : List Nat); decide)
    | @ask a dx n v ha hn =>
      exact absurd hk (by show ¬ 1 ∈ ([2] : List Nat); decide)
    | @cell a dx n s o ha hn hs =>
      exact ⟨_, rfl, a, C 2, dx, _, _, rfl, ha, T.cls 2 (by decide), T.na 2 (by decide) "source" (by decide +kernel), rfl, (by show 1 ≤ sizeLine; decide), fun p hp => q p _ hp (.cons hs .nil)⟩
    | @two a dx n f s s' o o' ha hn hs hs2 =>
      exact absurd hk (by show ¬ 3 ∈ ([2] : List Nat); decide)
    | @put a dx v s o ha hs =>
      exact absurd hk (by show ¬ 4 ∈ ([2] : List Nat); decide)
    | @tell a dx v s o ha hs =>
      exact absurd hk (by show ¬ 5 ∈ ([2] : List Nat); decide)
    | @store a dx s s' o o' ha hs hs2 =>
      exact absurd hk (by show ¬ 6 ∈ ([2] : List Nat); decide)
abbrev sSo4 : Stmt := inClass (top 36) 4
theorem scSo4 : FnScope ["self"] ["self"] (defScope sSo4) := ⟨rfl, rfl, rfl, by decide +kernel, rfl, by decide +kernel, by decide +kernel⟩
theorem ok_So4 {f : Addr} {fd : FuncData} (F : Fun K "sources" "Put.sources" sSo4 f fd) (T : Ct K mg C fi) : FnOk P w K mg base CX0 1 f fd ["self"] (spSo C [4]) := by
  refine F.ok scSo4 (fun vs H Q E h => ?_) (fun cdv A outer s H vs Q E hr h => ?_)
  · obtain ⟨v, m, rfl, _⟩ := h
    rfl
  · obtain ⟨v, m, rfl, hv, hk, q⟩ := h
    refine ⟨_, pss_one (ps_ret (pe_lst (pa_cons (pe_fld (pv 0) rfl) pa_nil))), ?_⟩
    cases hv with
    | @get a dx n v ha hn =>
      exact absurd hk (by show ¬ 0 ∈ ([4] : List Nat); decide)
    | @ask a dx n v ha hn =>
      exact absurd hk (by show ¬ 1 ∈ ([4] : List Nat); decide)
    | @cell a dx n s o ha hn hs =>
      exact absurd hk (by show ¬ 2 ∈ ([4] : List Nat); decide)
    | @two a dx n f s s' o o' ha hn hs hs2 =>
      exact absurd hk (by show ¬ 3 ∈ ([4] : List Nat); decide)
    | @put a dx v s o ha hs =>
      exact ⟨_, rfl, a, C 4, dx, _, _, rfl, ha, T.cls 4 (by decide), T.na 4 (by decide) "source" (by decide +kernel), rfl, (by show 1 ≤ sizeLine; decide), fun p hp => q p _ hp (.cons hs .nil)⟩
    | @tell a dx v s o ha hs =>
      exact absurd hk (by show ¬ 5 ∈ ([4] : List Nat); decide)
    | @store a dx s s' o o' ha hs hs2 =>
      exact absurd hk (by show ¬ 6 ∈ ([4] : List Nat); decide)
abbrev sSo5 : Stmt := inClass (top 37) 4
theorem scSo5 : FnScope ["self"] ["self"] (defScope sSo5) := ⟨rfl, rfl, rfl, by decide +kernel, rfl, by decide +kernel, by decide +kernel⟩
theorem ok_So5 {f : Addr} {fd : FuncData} (F : Fun K "sources" "Tell.sources" sSo5 f fd) (T : Ct K mg C fi) : FnOk P w K mg base CX0 1 f fd ["self"] (spSo C [5]) := by
  refine F.ok scSo5 (fun vs H Q E h => ?_) (fun cdv A outer s H vs Q E hr h => ?_)
  · obtain ⟨v, m, rfl, _⟩ := h
    rfl
  · obtain ⟨v, m, rfl, hv, hk, q⟩ := h
    refine ⟨_, pss_one (ps_ret (pe_lst (pa_cons (pe_fld (pv 0) rfl) pa_nil))), ?_⟩
    cases hv with
    | @get a dx n v ha hn =>
      exact absurd hk (by show ¬ 0 ∈ ([5] : List Nat); decide)
    | @ask a dx n v ha hn =>
      exact absurd hk (by show ¬ 1 ∈ ([5] : List Nat); decide)
    | @cell a dx n s o ha hn hs =>
      exact absurd hk (by show ¬ 2 ∈ ([5] : List Nat); decide)
    | @two a dx n f s s' o o' ha hn hs hs2 =>
      exact absurd hk (by show ¬ 3 ∈ ([5] : List Nat); decide)
    | @put a dx v s o ha hs =>
      exact absurd hk (by show ¬ 4 ∈ ([5] : List Nat); decide)
    | @tell a dx v s o ha hs =>
      exact ⟨_, rfl, a, C 5, dx, _, _, rfl, ha, T.cls 5 (by decide), T.na 5 (by decide) "source" (by decide +kernel), rfl, (by show 1 ≤ sizeLine; decide), fun p hp => q p _ hp (.cons hs .nil)⟩
    | @store a dx s s' o o' ha hs hs2 =>
      exact absurd hk (by show ¬ 6 ∈ ([5] : List Nat); decide)
abbrev sSo3 : Stmt := inClass (top 35) 4
theorem scSo3 : FnScope ["self"] ["self"] (defScope sSo3) := ⟨rfl, rfl, rfl, by decide +kernel, rfl, by decide +kernel, by decide +kernel⟩
theorem ok_So3 {f : Addr} {fd : FuncData} (F : Fun K "sources" "Two.sources" sSo3 f fd) (T : Ct K mg C fi) : FnOk P w K mg base CX0 1 f fd ["self"] (spSo C [3]) := by
  refine F.ok scSo3 (fun vs H Q E h => ?_) (fun cdv A outer s H vs Q E hr h => ?_)
  · obtain ⟨v, m, rfl, _⟩ := h
    rfl
  · obtain ⟨v, m, rfl, hv, hk, q⟩ := h
    refine ⟨_, pss_one (ps_ret (pe_lst (pa_cons (pe_fld (pv 0) rfl) (pa_cons (pe_fld (pv 0) rfl) pa_nil)))), ?_⟩
    cases hv with
    | @get a dx n v ha hn =>
      exact absurd hk (by show ¬ 0 ∈ ([3] : List Nat); decide)
    | @ask a dx n v ha hn =>
      exact absurd hk (by show ¬ 1 ∈ ([3] : List Nat); decide)
    | @cell a dx n s o ha hn hs =>
      exact absurd hk (by show ¬ 2 ∈ ([3] : List Nat); decide)
    | @two a dx n f s s' o o' ha hn hs hs2 =>
      exact ⟨_, rfl, a, C 3, dx, _, _, rfl, ha, T.cls 3 (by decide), T.na 3 (by decide) "one" (by decide +kernel), rfl, _, rfl, a, C 3, dx, _, _, rfl, ha, T.cls 3 (by decide), T.na 3 (by decide) "other" (by decide +kernel), rfl, (by show 2 ≤ sizeLine; decide), fun p hp => q p _ hp (.cons hs (.cons hs2 .nil))⟩
    | @put a dx v s o ha hs =>
      exact absurd hk (by show ¬ 4 ∈ ([3] : List Nat); decide)
    | @tell a dx v s o ha hs =>
      exact absurd hk (by show ¬ 5 ∈ ([3] : List Nat); decide)
    | @store a dx s s' o o' ha hs hs2 =>
      exact absurd hk (by show ¬ 6 ∈ ([3] : List Nat); decide)
abbrev sSo6 : Stmt := inClass (top 38) 3
theorem scSo6 : FnScope ["self"] ["self"] (defScope sSo6) := ⟨rfl, rfl, rfl, by decide +kernel, rfl, by decide +kernel, by decide +kernel⟩
theorem ok_So6 {f : Addr} {fd : FuncData} (F : Fun K "sources" "Store.sources" sSo6 f fd) (T : Ct K mg C fi) : FnOk P w K mg base CX0 1 f fd ["self"] (spSo C [6]) := by
  refine F.ok scSo6 (fun vs H Q E h => ?_) (fun cdv A outer s H vs Q E hr h => ?_)
  · obtain ⟨v, m, rfl, _⟩ := h
    rfl
  · obtain ⟨v, m, rfl, hv, hk, q⟩ := h
    refine ⟨_, pss_one (ps_ret (pe_lst (pa_cons (pe_fld (pv 0) rfl) (pa_cons (pe_fld (pv 0) rfl) pa_nil)))), ?_⟩
    cases hv with
    | @get a dx n v ha hn =>
      exact absurd hk (by show ¬ 0 ∈ ([6] : List Nat); decide)
    | @ask a dx n v ha hn =>
      exact absurd hk (by show ¬ 1 ∈ ([6] : List Nat); decide)
    | @cell a dx n s o ha hn hs =>
      exact absurd hk (by show ¬ 2 ∈ ([6] : List Nat); decide)
    | @two a dx n f s s' o o' ha hn hs hs2 =>
      exact absurd hk (by show ¬ 3 ∈ ([6] : List Nat); decide)
    | @put a dx v s o ha hs =>
      exact absurd hk (by show ¬ 4 ∈ ([6] : List Nat); decide)
    | @tell a dx v s o ha hs =>
      exact absurd hk (by show ¬ 5 ∈ ([6] : List Nat); decide)
    | @store a dx s s' o o' ha hs hs2 =>
      exact ⟨_, rfl, a, C 6, dx, _, _, rfl, ha, T.cls 6 (by decide), T.na 6 (by decide) "at" (by decide +kernel), rfl, _, rfl, a, C 6, dx, _, _, rfl, ha, T.cls 6 (by decide), T.na 6 (by decide) "source" (by decide +kernel), rfl, (by show 2 ≤ sizeLine; decide), fun p hp => q p _ hp (.cons hs (.cons hs2 .nil))⟩
abbrev sUwS : Stmt := inClass (top 31) 0
theorem scUwS : FnScope ["self"] ["self"] (defScope sUwS) := ⟨rfl, rfl, rfl, by decide +kernel, rfl, by decide +kernel, by decide +kernel⟩
theorem ok_UwS {f : Addr} {fd : FuncData} (F : Fun K "uses_way" "Step.uses_way" sUwS f fd) (T : Ct K mg C fi) : FnOk P w K mg base CX0 1 f fd ["self"] (spUw C [0, 1, 2, 4, 5, 6]) := by
  refine F.ok scUwS (fun vs H Q E h => ?_) (fun cdv A outer s H vs Q E hr h => ?_)
  · obtain ⟨v, m, rfl, _⟩ := h
    rfl
  · obtain ⟨v, m, rfl, hv, hk, q⟩ := h
    refine ⟨_, pss_one (ps_ret pe_bl), ?_⟩
    cases hv with
    | @get a dx n v ha hn =>
      exact q
    | @ask a dx n v ha hn =>
      exact q
    | @cell a dx n s o ha hn hs =>
      exact q
    | @two a dx n f s s' o o' ha hn hs hs2 =>
      exact absurd hk (by show ¬ 3 ∈ ([0, 1, 2, 4, 5, 6] : List Nat); decide)
    | @put a dx v s o ha hs =>
      exact q
    | @tell a dx v s o ha hs =>
      exact q
    | @store a dx s s' o o' ha hs hs2 =>
      exact q
abbrev sUw3 : Stmt := inClass (top 35) 3
theorem scUw3 : FnScope ["self"] ["self"] (defScope sUw3) := ⟨rfl, rfl, rfl, by decide +kernel, rfl, by decide +kernel, by decide +kernel⟩
theorem ok_Uw3 {f : Addr} {fd : FuncData} (F : Fun K "uses_way" "Two.uses_way" sUw3 f fd) (T : Ct K mg C fi) : FnOk P w K mg base CX0 1 f fd ["self"] (spUw C [3]) := by
  refine F.ok scUw3 (fun vs H Q E h => ?_) (fun cdv A outer s H vs Q E hr h => ?_)
  · obtain ⟨v, m, rfl, _⟩ := h
    rfl
  · obtain ⟨v, m, rfl, hv, hk, q⟩ := h
    refine ⟨_, pss_one (ps_ret pe_bl), ?_⟩
    cases hv with
    | @get a dx n v ha hn =>
      exact absurd hk (by show ¬ 0 ∈ ([3] : List Nat); decide)
    | @ask a dx n v ha hn =>
      exact absurd hk (by show ¬ 1 ∈ ([3] : List Nat); decide)
    | @cell a dx n s o ha hn hs =>
      exact absurd hk (by show ¬ 2 ∈ ([3] : List Nat); decide)
    | @two a dx n f s s' o o' ha hn hs hs2 =>
      exact q
    | @put a dx v s o ha hs =>
      exact absurd hk (by show ¬ 4 ∈ ([3] : List Nat); decide)
    | @tell a dx v s o ha hs =>
      exact absurd hk (by show ¬ 5 ∈ ([3] : List Nat); decide)
    | @store a dx s s' o o' ha hs hs2 =>
      exact absurd hk (by show ¬ 6 ∈ ([3] : List Nat); decide)
end
end L3

set_option Elab.async false
set_option linter.all false
set_option maxRecDepth 100000
namespace L3
open PySem L2
structure Bl2 (mg : Str → Option Value) : Prop where
  sorted : mg "sorted" = none
  set : mg "set" = none
  any : mg "any" = none
  enumerate : mg "enumerate" = none
  reversed : mg "reversed" = none
theorem boot_sorted' : bootBuiltins "sorted" = some (.builtin "sorted") := by decide +kernel
theorem boot_set' : bootBuiltins "set" = some (.type "set") := by decide +kernel
def rN (k : Nat) : Str := "r" ++ (toString (k : Int) : Str)
def strsV (l : List Str) : List V := l.map V.str
def nms (m : Md) (ns : List Nat) : List Str := (foldN ns).map rN ++ (if m.kind = 3 then [] else [("way" : Str)])
def inR (m : Md) : List Nat := m.src.filterMap id
def readsN (m : Md) : List Str := nms m (inR m)
def writesN (m : Md) : List Str := nms m (tgt m)
theorem small8 : ∀ k < 8, ((k : Nat) : Int).natAbs.log2 < 1920 := by decide
theorem rN_len : ∀ k < 8, (rN k).length ≤ 10 := by decide +kernel
theorem StepV.in8 {C : Nat → Addr} {H : Hp} {v : V} {m : Md} (h : StepV C H v m) : (inR m).length ≤ 2 ∧ ∀ k ∈ inR m, k < 8 := by
  have one : ∀ {s : V} {o : Option Nat}, SrcOK H s o → ∀ k, o = some k → k < 8 := by
    rintro s o ⟨p, n, i, _, _, ⟨_, h0, h7, e⟩ | ⟨_, _, _, e⟩ | ⟨_, _, _, e⟩⟩ k hk
    · rw [e] at hk
      have := Option.some.inj hk
      omega
    · rw [e] at hk; cases hk
    · rw [e] at hk; cases hk
  have two : ∀ {l : List (Option Nat)}, l.length ≤ 2 → (∀ o ∈ l, ∀ k, o = some k → k < 8) → (l.filterMap id).length ≤ 2 ∧ ∀ k ∈ l.filterMap id, k < 8 := by
    intro l hl ho
    refine ⟨Nat.le_trans (List.length_filterMap_le _ _) hl, fun k hk => ?_⟩
    obtain ⟨o, h1, h2⟩ := List.mem_filterMap.mp hk
    exact ho o h1 k h2
  cases h with
  | get a b => exact two (by simp) (by simp)
  | ask a b => exact two (by simp) (by simp)
  | cell a b c => exact two (by simp) (by intro o ho; rw [List.mem_singleton.mp ho]; exact one c)
  | two a b c d => exact two (by simp) (by
      intro o ho
      rcases List.mem_cons.mp ho with z | z
      · rw [z]; exact one c
      · rw [List.mem_singleton.mp z]; exact one d)
  | put a c => exact two (by simp) (by intro o ho; rw [List.mem_singleton.mp ho]; exact one c)
  | tell a c => exact two (by simp) (by intro o ho; rw [List.mem_singleton.mp ho]; exact one c)
  | store a c d => exact two (by simp) (by
      intro o ho
      rcases List.mem_cons.mp ho with z | z
      · rw [z]; exact one c
      · rw [List.mem_singleton.mp z]; exact one d)
def MthOk (P : Program) (w : World) (K : PySem.W.Frag) (mg : Str → Option Value) (base : Heap) (C : Addr) (nm : Str) (n : Nat) (ps : List Str) (sp : Sp) : Prop := ∃ f fd, Meth K C nm f ∧ FnOk P w K mg base CX0 n f fd ps sp ∧ Binds K fd ps []
structure Mts (P : Program) (w : World) (K : PySem.W.Frag) (mg : Str → Option Value) (base : Heap) (C : Nat → Addr) : Prop where
  uw : ∀ k, k < 7 → ∃ ks, k ∈ ks ∧ MthOk P w K mg base (C k) "uses_way" 1 ["self"] (spUw C ks)
  so : ∀ k, k < 7 → ∃ ks, k ∈ ks ∧ MthOk P w K mg base (C k) "sources" 1 ["self"] (spSo C ks)
  tg : ∀ k, k < 7 → ∃ ks, k ∈ ks ∧ MthOk P w K mg base (C k) "targets" 1 ["self"] (spTg C ks)
abbrev sTouched : Stmt := inClass (top 31) 6
abbrev sReads : Stmt := inClass (top 31) 4
abbrev sWrites : Stmt := inClass (top 31) 5
def spTouched (C : Nat → Addr) : Sp := fun vs H Q _ => ∃ (v : V) (m : Md) (l : Addr) (ns : List Nat), vs = [v, .ref l] ∧ StepV C H v m ∧ H l = some (.lst (natV ns)) ∧ ns.length ≤ 2 ∧ (∀ k ∈ ns, k < 8) ∧ ∀ p H', Same H H' → H p = none → H' p = some (.lst (strsV (nms m ns))) → Q (.ref p) H'
def spRd (C : Nat → Addr) : Sp := fun vs H Q _ => ∃ (v : V) (m : Md), vs = [v] ∧ StepV C H v m ∧ ∀ p H', Same H H' → H p = none → H' p = some (.lst (strsV (readsN m))) → Q (.ref p) H'
def spWr (C : Nat → Addr) : Sp := fun vs H Q _ => ∃ (v : V) (m : Md), vs = [v] ∧ StepV C H v m ∧ ∀ p H', Same H H' → H p = none → H' p = some (.lst (strsV (writesN m))) → Q (.ref p) H'
section
variable {P : Program} {w : World} {K : PySem.W.Frag} {mg : Str → Option Value} {base : Heap} {C fi : Nat → Addr}
theorem scTouched : FnScope ["self", "inner", "names"] ["self", "inner"] (defScope sTouched) := ⟨rfl, rfl, rfl, by decide +kernel, rfl, by decide +kernel, by decide +kernel⟩
theorem ndR : (["r"] : List Str).Nodup := by decide +kernel
set_option maxHeartbeats 2000000 in
theorem ok_touched {f : Addr} {fd : FuncData} (F : Fun K "touched" "Step.touched" sTouched f fd) (T : Ct K mg C fi) (B : Bl2 mg) (U : Mts P w K mg base C) : FnOk P w K mg base CX0 2 f fd ["self", "inner"] (spTouched C) := by
  refine F.ok scTouched (fun vs H Q E h => ?_) (fun cdv A outer s H vs Q E hr h => ?_)
  · obtain ⟨v, m, l, ns, rfl, _⟩ := h
    rfl
  · obtain ⟨v, m, l, ns, rfl, hv, hl, h2, h8, q⟩ := h
    have sz : (1000 : Nat) ≤ sizeLine := by decide
    refine ⟨_, pss_cons (ps_setLC (i := 2) scTouched.nd rfl rfl (N' := ["r"]) (ix := [none]) (sc0 := defScope sTouched) (N := ["self", "inner", "names"]) rfl (by decide +kernel) (pi_list (pe_callB (call_sortset rfl) (by rfl) B.sorted boot_sorted' (pa_cons (pe_callTy (call_set2 rfl) (by rfl) B.set boot_set' (pa_cons (pv 1) pa_nil)) pa_nil)))
        (fun C' cl s H fp => pg_name (i := 0) ndR rfl (Or.inl rfl) (.inr rfl)) (fun _ _ _ _ _ => pf_nil) (fun C' cl s H fp => pe_fstr1 (pv 0)))
      (pss_one (ps_ret (pe_ifExp (pt_val (pe_methD0 (pv 0))) (pe_op op_cat (pv 2) (pe_lst (pa_cons pe_str pa_nil))) (pv 2)))), ?_⟩
    obtain ⟨f1, f2, f3⟩ := foldN_facts h2
    refine ⟨_, rfl, l, ns, rfl, SqL.of hl, h2, h8, fun a na => ⟨a, foldN ns, rfl, upd_same, f1, f2, fun p np => ⟨p, rfl, ⟨_, SqL.of upd_same⟩, ?_⟩⟩⟩
    have s1 : Same H (upd (upd H a (SetO w a (foldN ns))) p (.lst (natV (foldN ns)))) := (same_new na).trans (same_new np)
    have e1 : (upd (upd H a (SetO w a (foldN ns))) p (.lst (natV (foldN ns)))) p = some (.lst (natV (foldN ns))) := upd_same
    generalize hH : upd (upd H a (SetO w a (foldN ns))) p (.lst (natV (foldN ns))) = H1 at s1 e1
    have hH' : upd (upd H a (SetO ((cxOf CX0 P w K mg base ["self", "inner", "names"] "Step.touched" (defScope sTouched) f cdv A outer s H E).nox.w) a (foldN ns))) p (.lst (natV (foldN ns))) = H1 := hH
    rw [hH']
    refine lc_list (K := K) (a := p) (xs := natV (foldN ns)) (fun i ys H' => H' = H1 ∧ ys = (strsV ((foldN ns).map rN)).take i) ⟨rfl, rfl⟩ (fun i ys H' hi ⟨a1, a2⟩ => by
        subst a1 a2
        refine ⟨SqL.of e1, ?_⟩
        rw [List.length_take]
        have : (strsV ((foldN ns).map rN)).length ≤ 2 := by unfold strsV; rw [List.length_map, List.length_map]; exact f1
        omega) ?_ ?_
    · rintro i x ys H' hx ⟨rfl, rfl⟩
      have hlt : i < (natV (foldN ns)).length := (List.getElem?_eq_some_iff.mp hx).1
      have hlt' : i < (foldN ns).length := by unfold natV at hlt; rw [List.length_map] at hlt; exact hlt
      have ex : x = .int ((foldN ns)[i] : Int) := by
        have := (List.getElem?_eq_some_iff.mp hx).2
        rw [← this]
        unfold natV
        rw [List.getElem_map]
      subst ex
      have k8 : (foldN ns)[i] < 8 := h8 _ ((f3 _).mp (List.getElem_mem hlt'))
      refine ⟨trivial, tAny_T ?_⟩
      refine ⟨_, rfl, _, rfl, small8 _ k8, Nat.le_trans (rN_len _ k8) (by decide), ?_⟩
      refine Nx.mk hlt ⟨rfl, ?_⟩
      have g : (strsV ((foldN ns).map rN))[i]? = some (.str (rN (foldN ns)[i])) := by
        unfold strsV
        rw [List.getElem?_map, List.getElem?_map, List.getElem?_eq_getElem hlt']
        rfl
      rw [List.take_succ, g]
      rfl
    · rintro ys H' ⟨rfl, rfl⟩ D hD
      have eys : (strsV ((foldN ns).map rN)).take (natV (foldN ns)).length = strsV ((foldN ns).map rN) := by
        refine List.take_of_length_le ?_
        unfold strsV natV
        rw [List.length_map, List.length_map, List.length_map]
        exact Nat.le_refl _
      rw [eys]
      have s2 := same_new (o := .lst (strsV ((foldN ns).map rN))) hD
      have e2 : (upd H' D (.lst (strsV ((foldN ns).map rN)))) D = some (.lst (strsV ((foldN ns).map rN))) := upd_same
      generalize upd H' D (.lst (strsV ((foldN ns).map rN))) = H2 at *
      have s02 := s1.trans s2
      have nD : H D = none := s1.free hD
      obtain ⟨ad, dx, fs, rfl, ha, hk, l1, _⟩ := hv.at_
      obtain ⟨ks, hks, fu, fdu, Mu, Fu, Bu⟩ := U.uw m.kind hk
      refine ⟨_, rfl, ad, dx, C m.kind, fu, fs, fdu, 1, ["self"], _, rfl, s02 _ _ ha, l1, T.cls _ hk, Mu, Fu, hr, Bu, .ref ad, m, rfl, hv.same s02, hks, _, rfl, ?_⟩
      refine ite2 (fun h => ?_) (fun h => ?_)
      · have h3 : m.kind ≠ 3 := of_decide_eq_true h
        refine ⟨_, rfl, (by show 1 ≤ sizeLine; decide), fun lw nw => ?_⟩
        have s3 := same_new (o := .lst [.str "way"]) nw
        refine ⟨D, lw, _, _, rfl, rfl, s3 _ _ e2, upd_same, ?_, fun r nr => ?_⟩
        · unfold strsV
          rw [List.length_map, List.length_map]
          show _ + 1 ≤ _
          omega
        have s4 := same_new (o := .lst (strsV ((foldN ns).map rN) ++ [.str "way"])) nr
        refine q r _ (s02.trans (s3.trans s4)) (s02.free (s3.free nr)) ?_
        rw [upd_same]
        unfold nms strsV
        rw [if_neg h3, List.map_append]
        rfl
      · have h3 : m.kind = 3 := by
          by_cases z : m.kind = 3
          · exact z
          · exact absurd (decide_eq_true z) h
        refine ⟨_, rfl, q D _ s02 nD ?_⟩
        rw [e2]
        unfold nms
        rw [if_pos h3, List.append_nil]
end
end L3

set_option Elab.async false
set_option linter.all false
set_option maxRecDepth 100000
namespace L3
open PySem L2
theorem ix_tupK {X : Cx} {K : PySem.W.Frag} (h : X.K = K) : IxR X (rIxT K) := by
  subst h
  exact ix_tup
theorem nms_len {m : Md} {ns : List Nat} (h : ns.length ≤ 2) : (nms m ns).length ≤ 3 := by
  obtain ⟨f1, _⟩ := foldN_facts h
  unfold nms
  rw [List.length_append, List.length_map]
  split <;> simp <;> omega
structure Mts2 (P : Program) (w : World) (K : PySem.W.Frag) (mg : Str → Option Value) (base : Heap) (C : Nat → Addr) : Prop extends Mts P w K mg base C where
  to : ∀ k, k < 7 → MthOk P w K mg base (C k) "touched" 2 ["self", "inner"] (spTouched C)
structure Mts3 (P : Program) (w : World) (K : PySem.W.Frag) (mg : Str → Option Value) (base : Heap) (C : Nat → Addr) : Prop where
  rd : ∀ k, k < 7 → MthOk P w K mg base (C k) "reads" 3 ["self"] (spRd C)
  wr : ∀ k, k < 7 → MthOk P w K mg base (C k) "writes" 3 ["self"] (spWr C)
section
variable {P : Program} {w : World} {K : PySem.W.Frag} {mg : Str → Option Value} {base : Heap} {C fi : Nat → Addr}
theorem scWrites : FnScope ["self"] ["self"] (defScope sWrites) := ⟨rfl, rfl, rfl, by decide +kernel, rfl, by decide +kernel, by decide +kernel⟩
set_option maxHeartbeats 1000000 in
theorem ok_writes {f : Addr} {fd : FuncData} (F : Fun K "writes" "Step.writes" sWrites f fd) (T : Ct K mg C fi) (U : Mts2 P w K mg base C) : FnOk P w K mg base CX0 3 f fd ["self"] (spWr C) := by
  refine F.ok scWrites (fun vs H Q E h => ?_) (fun cdv A outer s H vs Q E hr h => ?_)
  · obtain ⟨v, m, rfl, _⟩ := h
    rfl
  · obtain ⟨v, m, rfl, hv, q⟩ := h
    have hr1 : Room 1 _ := hr.mono (by decide)
    refine ⟨_, pss_one (ps_ret (pe_methD (pv 0) (pa_cons (pe_methD0 (pv 0)) pa_nil))), ?_⟩
    obtain ⟨ad, dx, fs, rfl, ha, hk, l1, l2, l3, l4, l5, l6⟩ := hv.at_
    obtain ⟨ft, fdt, Mt, Ft, Bt⟩ := U.to m.kind hk
    obtain ⟨ks, hks, fg, fdg, Mg, Fg, Bg⟩ := U.tg m.kind hk
    refine ⟨_, rfl, ad, dx, C m.kind, ft, fs, fdt, 2, ["self", "inner"], _, rfl, ha, l4, T.cls _ hk, Mt, Ft, hr, Bt, ?_⟩
    refine ⟨_, rfl, ad, dx, C m.kind, fg, fs, fdg, 1, ["self"], _, rfl, ha, l3, T.cls _ hk, Mg, Fg, hr1, Bg, .ref ad, m, rfl, hv, hks, fun p np => ?_⟩
    have s1 := same_new (o := .lst (natV (tgt m))) np
    refine ⟨.ref ad, m, p, tgt m, rfl, hv.same s1, upd_same, hv.tgt8.1, hv.tgt8.2, fun r H' s2 nr er => ?_⟩
    exact q r H' (s1.trans s2) (s1.free nr) er
theorem scReads : FnScope ["self"] ["self"] (defScope sReads) := ⟨rfl, rfl, rfl, by decide +kernel, rfl, by decide +kernel, by decide +kernel⟩
theorem ndSrc : (["source"] : List Str).Nodup := by decide +kernel
set_option maxHeartbeats 2000000 in
theorem ok_reads {f : Addr} {fd : FuncData} (F : Fun K "reads" "Step.reads" sReads f fd) (T : Ct K mg C fi) (U : Mts2 P w K mg base C) : FnOk P w K mg base CX0 3 f fd ["self"] (spRd C) := by
  refine F.ok scReads (fun vs H Q E h => ?_) (fun cdv A outer s H vs Q E hr h => ?_)
  · obtain ⟨v, m, rfl, _⟩ := h
    rfl
  · obtain ⟨v, m, rfl, hv, q⟩ := h
    have hr1 : Room 1 _ := hr.mono (by decide)
    have sz : (1000 : Nat) ≤ sizeLine := by decide
    refine ⟨_, pss_one (ps_ret (pe_methD (pv 0) (pa_cons (pe_lc (N' := ["source"]) (ix := [none]) (sc0 := defScope sReads) (N := ["self"]) rfl (by decide +kernel) (pi_list (pe_methD0 (pv 0)))
        (fun C' cl s H fp => pg_name (i := 0) ndSrc rfl (Or.inl rfl) (.inr rfl)) (fun _ _ _ _ _ => pf_one (pt_cmpR op_eq (pe_ix (ix_tupK (K := K) rfl) (pv 0) pe_int (fun _ _ => rfl)) pe_str (nomark _))) (fun C' cl s H fp => pe_ix (ix_tupK (K := K) rfl) (pv 0) pe_int (fun _ _ => rfl))) pa_nil))), ?_⟩
    obtain ⟨ad, dx, fs, rfl, ha, hk, l1, l2, l3, l4, l5, l6⟩ := hv.at_
    obtain ⟨ft, fdt, Mt, Ft, Bt⟩ := U.to m.kind hk
    obtain ⟨ks, hks, fg, fdg, Mg, Fg, Bg⟩ := U.so m.kind hk
    refine ⟨_, rfl, ad, dx, C m.kind, ft, fs, fdt, 2, ["self", "inner"], _, rfl, ha, l4, T.cls _ hk, Mt, Ft, hr, Bt, ?_⟩
    refine ⟨_, rfl, ad, dx, C m.kind, fg, fs, fdg, 1, ["self"], _, rfl, ha, l2, T.cls _ hk, Mg, Fg, hr1, Bg, .ref ad, m, rfl, hv, hks, fun p us np hus => ?_⟩
    have s1 := same_new (o := .lst us) np
    have e1 : (upd H p (.lst us)) p = some (.lst us) := upd_same
    generalize upd H p (.lst us) = H1 at *
    have lus := hus.length
    have l8 : m.src.length ≤ 2 := by cases hv <;> simp
    refine ⟨p, rfl, ⟨_, SqL.of e1⟩, ?_⟩
    refine lc_list (K := K) (a := p) (xs := us) (fun i ys H' => H' = H1 ∧ ys = natV ((m.src.take i).filterMap id)) ⟨rfl, rfl⟩ (fun i ys H' hi ⟨a1, a2⟩ => by
        subst a1 a2
        refine ⟨SqL.of e1, ?_⟩
        unfold natV
        rw [List.length_map]
        have := List.length_filterMap_le (f := id) (l := m.src.take i)
        rw [List.length_take] at this
        omega) ?_ ?_
    · rintro i x ys H' hx ⟨rfl, rfl⟩
      have hlt : i < us.length := (List.getElem?_eq_some_iff.mp hx).1
      have hlt' : i < m.src.length := by omega
      have gsrc : m.src[i]? = some m.src[i] := List.getElem?_eq_getElem hlt'
      have hso : SrcOK H x m.src[i] := by
        have hxs : us[i] = x := (List.getElem?_eq_some_iff.mp hx).2
        have key : ∀ {a : List V} {b : List (Option Nat)}, Paired (SrcOK H) a b → ∀ (j : Nat) (h1 : j < a.length) (h2 : j < b.length), SrcOK H a[j] b[j] := by
          intro a b hp
          induction hp with
          | nil => intro j h1; simp at h1
          | cons hh _ ih =>
            intro j h1 h2
            cases j with
            | zero => exact hh
            | succ j => exact ih j (by simpa using h1) (by simpa using h2)
        have := key hus i hlt hlt'
        rw [hxs] at this
        exact this
      obtain ⟨ps, n, iv, rfl, hps, hn⟩ := hso
      have hps1 := s1 _ _ hps
      have et : m.src.take (i + 1) = m.src.take i ++ [m.src[i]] := by
        rw [List.take_succ, gsrc]
        rfl
      refine ⟨trivial, _, rfl, ps, _, _, _, rfl, rfl, SqT.of hps1, rfl, rfl, _, rfl, ?_⟩
      rcases hn with ⟨rfl, h0, h7, eo⟩ | ⟨rfl, h0, h7, eo⟩ | ⟨rfl, h0, h7, eo⟩
      · refine iteA (by decide +kernel) ?_
        refine ⟨_, rfl, ps, _, _, _, rfl, rfl, SqT.of hps1, rfl, ?_⟩
        refine Nx.mk hlt ⟨rfl, ?_⟩
        rw [et, List.filterMap_append, eo]
        unfold natV
        rw [List.map_append]
        have : ((iv.toNat : Nat) : Int) = iv := Int.toNat_of_nonneg h0
        simp [this]
      · refine iteB (by decide +kernel) ?_
        refine Nx.mk hlt ⟨rfl, ?_⟩
        rw [et, List.filterMap_append, eo]
        simp
      · refine iteB (by decide +kernel) ?_
        refine Nx.mk hlt ⟨rfl, ?_⟩
        rw [et, List.filterMap_append, eo]
        simp
    · rintro ys H' ⟨rfl, rfl⟩ D hD
      rw [lus, List.take_length]
      have s2 := same_new (o := .lst (natV (inR m))) hD
      refine ⟨.ref ad, m, D, inR m, rfl, hv.same (s1.trans s2), upd_same, hv.in8.1, hv.in8.2, fun r H2 s3 nr er => ?_⟩
      exact q r H2 ((s1.trans s2).trans s3) ((s1.trans s2).free nr) er
end
end L3

set_option Elab.async false
set_option linter.all false
set_option maxRecDepth 100000
namespace L3
open PySem L2
def kd : Sd → Nat
  | .get _ _ => 0
  | .ask _ _ => 1
  | .cell _ _ => 2
  | .two _ _ _ _ => 3
  | .put _ _ => 4
  | .tell _ _ => 5
  | .store _ _ => 6
theorem kd_md (d : Sd) : (mdOf d).kind = kd d := by cases d <;> rfl
def preT (l n : Str) : Str := if n = "is" then l else if n = "by" then "f" else if n = "in" then "r" else if n = "field" then "f" else ""
def partT (l : Str) (x : Part) : Str := preT l x.1 ++ (toString x.2 : Str)
def ns (n : Nat) : Str := (toString (n : Int) : Str)
/-- the words of a step -/
def wordsT : Sd → Str
  | .get n x => ("get r" ++ ns n) ++ " " ++ partT "p" x
  | .ask n x => ("ask r" ++ ns n) ++ " " ++ partT "m" x
  | .cell n x => ("cell r" ++ ns n) ++ " " ++ partT "r" x
  | .two n f x y => ((("two r" ++ ns n) ++ " " ++ f) ++ " " ++ partT "r" x) ++ " " ++ partT "r" y
  | .put x y => ("put " ++ partT "p" x) ++ " " ++ partT "r" y
  | .tell x y => ("tell " ++ partT "m" x) ++ " " ++ partT "r" y
  | .store x y => ("store " ++ partT "r" x) ++ " " ++ partT "r" y
theorem emp_app2 (a : Str) : (("" : Str) ++ a) = a := by
  have : ("" : Str) = Str.empty := by decide +kernel
  rw [this]
  exact emp_app a
theorem log_small {i : Int} (h0 : 0 ≤ i) (h1 : i ≤ 16777215) : i.natAbs.log2 < 1920 := by
  have hn : i.natAbs ≤ 16777215 := by omega
  have : i.natAbs.log2 ≤ 24 := by
    by_cases hz : i.natAbs = 0
    · rw [hz]; decide
    · have := Nat.log2_lt hz |>.mpr (show i.natAbs < 2 ^ 24 by omega)
      omega
  omega
theorem int_len {i : Int} (h0 : 0 ≤ i) (h1 : i ≤ 16777215) : (toString i : Str).length ≤ 1921 := PyProof.Rows.int_text_len_1921 (log_small h0 h1)
theorem SelC.bd {x : Part} (h : SelC x) : 0 ≤ x.2 ∧ x.2 ≤ 16777215 := by rcases h with ⟨_, a, b⟩ | ⟨_, a, b⟩ <;> omega
theorem SrcC.bd {x : Part} (h : SrcC x) : 0 ≤ x.2 ∧ x.2 ≤ 16777215 := by rcases h with ⟨_, a, b⟩ | ⟨_, a, b⟩ | ⟨_, a, b⟩ <;> omega
theorem len_app (a b : Str) : (a ++ b).length = a.length + b.length := by
  show (a.cps ++ b.cps).size = a.cps.size + b.cps.size
  simp
theorem part_len {l : Str} {x : Part} (hl : l.length ≤ 1) (h : 0 ≤ x.2 ∧ x.2 ≤ 16777215) : (partT l x).length ≤ 1922 := by
  have := int_len h.1 h.2
  unfold partT
  rw [len_app]
  have : (preT l x.1).length ≤ 1 := by
    unfold preT
    split
    · exact hl
    · split
      · decide +kernel
      · split
        · decide +kernel
        · split <;> decide +kernel
  omega
theorem ns_len {n : Nat} (h : n < 8) : (ns n).length ≤ 1921 := int_len (by omega) (by omega)
theorem op_len : ∀ f ∈ opsL, f.length ≤ 2 := by decide +kernel
theorem sz9 {a : Str} (h : a.length ≤ 10000) : a.length ≤ sizeLine := Nat.le_trans h (by decide)
/-- a sel's or source's words -/
def spPartW (l : Str) (ok : Part → Prop) : Sp := fun vs H Q _ => ∃ v x, vs = [v] ∧ Pt H v x ∧ ok x ∧ Q (.str (partT l x)) H
section
variable {P : Program} {w : World} {K : PySem.W.Frag} {mg : Str → Option Value} {base : Heap} {C fi : Nat → Addr}
theorem scSoW : FnScope ["source"] ["source"] (defScope sSoW) := ⟨rfl, rfl, rfl, by decide +kernel, rfl, by decide +kernel, by decide +kernel⟩
theorem scPlW : FnScope ["sel"] ["sel"] (defScope sPlW) := ⟨rfl, rfl, rfl, by decide +kernel, rfl, by decide +kernel, by decide +kernel⟩
theorem scMaW : FnScope ["sel"] ["sel"] (defScope sMaW) := ⟨rfl, rfl, rfl, by decide +kernel, rfl, by decide +kernel, by decide +kernel⟩
theorem ok_PlW {f : Addr} {fd : FuncData} (F : Fun K "place_words" "place_words" sPlW f fd) : FnOk P w K mg base CX0 1 f fd ["sel"] (spPartW "p" SelC) := by
  refine F.ok scPlW (fun vs H Q E h => ?_) (fun cdv A outer s H vs Q E hr h => ?_)
  · obtain ⟨v, x, rfl, _⟩ := h
    rfl
  · obtain ⟨v, ⟨n, i⟩, rfl, ⟨p, rfl, hp⟩, hc, q⟩ := h
    refine ⟨_, pss_one (ps_ret (pe_ifExp (pt_cmpR op_eq (pe_ix ix_tup (pv 0) pe_int (fun _ _ => rfl)) pe_str (nomark _)) (pe_fstr1 (pe_ix ix_tup (pv 0) pe_int (fun _ _ => rfl))) (pe_fstr1 (pe_ix ix_tup (pv 0) pe_int (fun _ _ => rfl))))), ?_⟩
    have hb := hc.bd
    have hl := part_len (l := "p") (by decide +kernel) hb
    rcases hc with ⟨e, h0, h1⟩ | ⟨e, h0, h1⟩
    · dsimp only at e h0 h1
      subst e
      refine ⟨_, rfl, p, _, _, _, rfl, rfl, SqT.of hp, rfl, rfl, _, rfl, iteA (by show decide (V.str ("is" : Str) = V.str ("is" : Str)) = true; decide +kernel) ?_⟩
      exact ⟨_, rfl, p, _, _, _, rfl, rfl, SqT.of hp, rfl, i, rfl, log_small hb.1 hb.2, sz9 (Nat.le_trans hl (by decide)), q⟩
    · dsimp only at e h0 h1
      subst e
      refine ⟨_, rfl, p, _, _, _, rfl, rfl, SqT.of hp, rfl, rfl, _, rfl, iteB (by show decide (V.str ("by" : Str) = V.str ("is" : Str)) = false; decide +kernel) ?_⟩
      exact ⟨_, rfl, p, _, _, _, rfl, rfl, SqT.of hp, rfl, i, rfl, log_small hb.1 hb.2, sz9 (Nat.le_trans hl (by decide)), q⟩
theorem ok_MaW {f : Addr} {fd : FuncData} (F : Fun K "mark_words" "mark_words" sMaW f fd) : FnOk P w K mg base CX0 1 f fd ["sel"] (spPartW "m" SelC) := by
  refine F.ok scMaW (fun vs H Q E h => ?_) (fun cdv A outer s H vs Q E hr h => ?_)
  · obtain ⟨v, x, rfl, _⟩ := h
    rfl
  · obtain ⟨v, ⟨n, i⟩, rfl, ⟨p, rfl, hp⟩, hc, q⟩ := h
    refine ⟨_, pss_one (ps_ret (pe_ifExp (pt_cmpR op_eq (pe_ix ix_tup (pv 0) pe_int (fun _ _ => rfl)) pe_str (nomark _)) (pe_fstr1 (pe_ix ix_tup (pv 0) pe_int (fun _ _ => rfl))) (pe_fstr1 (pe_ix ix_tup (pv 0) pe_int (fun _ _ => rfl))))), ?_⟩
    have hb := hc.bd
    have hl := part_len (l := "m") (by decide +kernel) hb
    rcases hc with ⟨e, h0, h1⟩ | ⟨e, h0, h1⟩
    · dsimp only at e h0 h1
      subst e
      refine ⟨_, rfl, p, _, _, _, rfl, rfl, SqT.of hp, rfl, rfl, _, rfl, iteA (by show decide (V.str ("is" : Str) = V.str ("is" : Str)) = true; decide +kernel) ?_⟩
      exact ⟨_, rfl, p, _, _, _, rfl, rfl, SqT.of hp, rfl, i, rfl, log_small hb.1 hb.2, sz9 (Nat.le_trans hl (by decide)), q⟩
    · dsimp only at e h0 h1
      subst e
      refine ⟨_, rfl, p, _, _, _, rfl, rfl, SqT.of hp, rfl, rfl, _, rfl, iteB (by show decide (V.str ("by" : Str) = V.str ("is" : Str)) = false; decide +kernel) ?_⟩
      exact ⟨_, rfl, p, _, _, _, rfl, rfl, SqT.of hp, rfl, i, rfl, log_small hb.1 hb.2, sz9 (Nat.le_trans hl (by decide)), q⟩
theorem ok_SoW {f : Addr} {fd : FuncData} (F : Fun K "source_words" "source_words" sSoW f fd) (B : Bl mg) : FnOk P w K mg base CX0 1 f fd ["source"] (spPartW "r" SrcC) := by
  refine F.ok scSoW (fun vs H Q E h => ?_) (fun cdv A outer s H vs Q E hr h => ?_)
  · obtain ⟨v, x, rfl, _⟩ := h
    rfl
  · obtain ⟨v, ⟨n, i⟩, rfl, ⟨p, rfl, hp⟩, hc, q⟩ := h
    refine ⟨_, pss_cons (ps_if (pt_cmpR op_eq (pe_ix ix_tup (pv 0) pe_int (fun _ _ => rfl)) pe_str (nomark _)) (pss_one (ps_ret (pe_fstr1 (pe_ix ix_tup (pv 0) pe_int (fun _ _ => rfl))))) pss_nil) (pss_one (ps_ret (pe_ifExp (pt_cmpR op_eq (pe_ix ix_tup (pv 0) pe_int (fun _ _ => rfl)) pe_str (nomark _)) (pe_fstr1 (pe_ix ix_tup (pv 0) pe_int (fun _ _ => rfl))) (pe_callTy call_str_int (by rfl) B.str boot_str' (pa_cons (pe_ix ix_tup (pv 0) pe_int (fun _ _ => rfl)) pa_nil))))), ?_⟩
    have hb := hc.bd
    have hl := part_len (l := "r") (by decide +kernel) hb
    rcases hc with ⟨e, h0, h1⟩ | ⟨e, h0, h1⟩ | ⟨e, h0, h1⟩
    · dsimp only at e h0 h1
      subst e
      refine ⟨_, rfl, p, _, _, _, rfl, rfl, SqT.of hp, rfl, rfl, _, rfl, iteA (by show decide (V.str ("in" : Str) = V.str ("in" : Str)) = true; decide +kernel) ?_⟩
      exact ⟨_, rfl, p, _, _, _, rfl, rfl, SqT.of hp, rfl, i, rfl, log_small hb.1 hb.2, sz9 (Nat.le_trans hl (by decide)), q⟩
    · dsimp only at e h0 h1
      subst e
      refine ⟨_, rfl, p, _, _, _, rfl, rfl, SqT.of hp, rfl, rfl, _, rfl, iteB (by show decide (V.str ("number" : Str) = V.str ("in" : Str)) = false; decide +kernel) ?_⟩
      refine ⟨_, rfl, p, _, _, _, rfl, rfl, SqT.of hp, rfl, rfl, _, rfl, iteB (by show decide (V.str ("number" : Str) = V.str ("field" : Str)) = false; decide +kernel) ?_⟩
      refine ⟨_, rfl, p, _, _, _, rfl, rfl, SqT.of hp, rfl, i, rfl, log_small hb.1 hb.2, ?_⟩
      have : partT "r" (("number" : Str), i) = (toString i : Str) := emp_app2 _
      rw [this] at q
      exact q
    · dsimp only at e h0 h1
      subst e
      refine ⟨_, rfl, p, _, _, _, rfl, rfl, SqT.of hp, rfl, rfl, _, rfl, iteB (by show decide (V.str ("field" : Str) = V.str ("in" : Str)) = false; decide +kernel) ?_⟩
      refine ⟨_, rfl, p, _, _, _, rfl, rfl, SqT.of hp, rfl, rfl, _, rfl, iteA (by show decide (V.str ("field" : Str) = V.str ("field" : Str)) = true; decide +kernel) ?_⟩
      exact ⟨_, rfl, p, _, _, _, rfl, rfl, SqT.of hp, rfl, i, rfl, log_small hb.1 hb.2, sz9 (Nat.le_trans hl (by decide)), q⟩
def spTold (C : Nat → Addr) (k : Nat) : Sp := fun vs H Q _ => ∃ v pu d, vs = [v] ∧ ObD C H v (.ref pu) d ∧ kd d = k ∧ ∀ p xs, H p = none → H pu = some (.tup xs) → Q (.ref p) (upd H p (.tup xs))
def spWords (C : Nat → Addr) (k : Nat) : Sp := fun vs H Q _ => ∃ v u d, vs = [v] ∧ ObD C H v u d ∧ kd d = k ∧ Q (.str (wordsT d)) H
abbrev sTo0 : Stmt := inClass (top 32) 1
theorem scTo0 : FnScope ["self"] ["self"] (defScope sTo0) := ⟨rfl, rfl, rfl, by decide +kernel, rfl, by decide +kernel, by decide +kernel⟩
theorem ok_To0 {f : Addr} {fd : FuncData} (F : Fun K "told" "Get.told" sTo0 f fd) (T : Ct K mg C fi) : FnOk P w K mg base CX0 1 f fd ["self"] (spTold C 0) := by
  refine F.ok scTo0 (fun vs H Q E h => ?_) (fun cdv A outer s H vs Q E hr h => ?_)
  · obtain ⟨v, pu, d, rfl, _⟩ := h
    rfl
  · obtain ⟨v, pu, d, rfl, hv, hk, q⟩ := h
    refine ⟨_, pss_one (ps_ret (pe_tup (pa_cons pe_str (pa_cons (pe_fld (pv 0) rfl) (pa_cons (pe_fld (pv 0) rfl) pa_nil))))), ?_⟩
    cases hv with
    | @get a dx p n s x ho hp hn hs hc =>
      exact ⟨_, rfl, a, C 0, dx, _, _, rfl, ho, T.cls 0 (by decide), T.na 0 (by decide) "to" (by decide +kernel), rfl, _, rfl, a, C 0, dx, _, _, rfl, ho, T.cls 0 (by decide), T.na 0 (by decide) "sel" (by decide +kernel), rfl, (by show 3 ≤ sizeLine; decide), fun t ht => q t _ ht hp⟩
    | @ask a dx p n s x ho hp hn hs hc =>
      exact absurd hk (by show ¬ 1 = 0; decide)
    | @cell a dx p n s x ho hp hn hs hc =>
      exact absurd hk (by show ¬ 2 = 0; decide)
    | @two a dx p n f s s' x y ho hp hn hf hs hc hs2 hc2 =>
      exact absurd hk (by show ¬ 3 = 0; decide)
    | @put a dx p s s' x y ho hp hs hc hs2 hc2 =>
      exact absurd hk (by show ¬ 4 = 0; decide)
    | @tell a dx p s s' x y ho hp hs hc hs2 hc2 =>
      exact absurd hk (by show ¬ 5 = 0; decide)
    | @store a dx p s s' x y ho hp hs hc hs2 hc2 =>
      exact absurd hk (by show ¬ 6 = 0; decide)
abbrev sTo1 : Stmt := inClass (top 33) 1
theorem scTo1 : FnScope ["self"] ["self"] (defScope sTo1) := ⟨rfl, rfl, rfl, by decide +kernel, rfl, by decide +kernel, by decide +kernel⟩
theorem ok_To1 {f : Addr} {fd : FuncData} (F : Fun K "told" "Ask.told" sTo1 f fd) (T : Ct K mg C fi) : FnOk P w K mg base CX0 1 f fd ["self"] (spTold C 1) := by
  refine F.ok scTo1 (fun vs H Q E h => ?_) (fun cdv A outer s H vs Q E hr h => ?_)
  · obtain ⟨v, pu, d, rfl, _⟩ := h
    rfl
  · obtain ⟨v, pu, d, rfl, hv, hk, q⟩ := h
    refine ⟨_, pss_one (ps_ret (pe_tup (pa_cons pe_str (pa_cons (pe_fld (pv 0) rfl) (pa_cons (pe_fld (pv 0) rfl) pa_nil))))), ?_⟩
    cases hv with
    | @get a dx p n s x ho hp hn hs hc =>
      exact absurd hk (by show ¬ 0 = 1; decide)
    | @ask a dx p n s x ho hp hn hs hc =>
      exact ⟨_, rfl, a, C 1, dx, _, _, rfl, ho, T.cls 1 (by decide), T.na 1 (by decide) "to" (by decide +kernel), rfl, _, rfl, a, C 1, dx, _, _, rfl, ho, T.cls 1 (by decide), T.na 1 (by decide) "sel" (by decide +kernel), rfl, (by show 3 ≤ sizeLine; decide), fun t ht => q t _ ht hp⟩
    | @cell a dx p n s x ho hp hn hs hc =>
      exact absurd hk (by show ¬ 2 = 1; decide)
    | @two a dx p n f s s' x y ho hp hn hf hs hc hs2 hc2 =>
      exact absurd hk (by show ¬ 3 = 1; decide)
    | @put a dx p s s' x y ho hp hs hc hs2 hc2 =>
      exact absurd hk (by show ¬ 4 = 1; decide)
    | @tell a dx p s s' x y ho hp hs hc hs2 hc2 =>
      exact absurd hk (by show ¬ 5 = 1; decide)
    | @store a dx p s s' x y ho hp hs hc hs2 hc2 =>
      exact absurd hk (by show ¬ 6 = 1; decide)
abbrev sTo2 : Stmt := inClass (top 34) 1
theorem scTo2 : FnScope ["self"] ["self"] (defScope sTo2) := ⟨rfl, rfl, rfl, by decide +kernel, rfl, by decide +kernel, by decide +kernel⟩
theorem ok_To2 {f : Addr} {fd : FuncData} (F : Fun K "told" "Cell.told" sTo2 f fd) (T : Ct K mg C fi) : FnOk P w K mg base CX0 1 f fd ["self"] (spTold C 2) := by
  refine F.ok scTo2 (fun vs H Q E h => ?_) (fun cdv A outer s H vs Q E hr h => ?_)
  · obtain ⟨v, pu, d, rfl, _⟩ := h
    rfl
  · obtain ⟨v, pu, d, rfl, hv, hk, q⟩ := h
    refine ⟨_, pss_one (ps_ret (pe_tup (pa_cons pe_str (pa_cons (pe_fld (pv 0) rfl) (pa_cons (pe_fld (pv 0) rfl) pa_nil))))), ?_⟩
    cases hv with
    | @get a dx p n s x ho hp hn hs hc =>
      exact absurd hk (by show ¬ 0 = 2; decide)
    | @ask a dx p n s x ho hp hn hs hc =>
      exact absurd hk (by show ¬ 1 = 2; decide)
    | @cell a dx p n s x ho hp hn hs hc =>
      exact ⟨_, rfl, a, C 2, dx, _, _, rfl, ho, T.cls 2 (by decide), T.na 2 (by decide) "to" (by decide +kernel), rfl, _, rfl, a, C 2, dx, _, _, rfl, ho, T.cls 2 (by decide), T.na 2 (by decide) "source" (by decide +kernel), rfl, (by show 3 ≤ sizeLine; decide), fun t ht => q t _ ht hp⟩
    | @two a dx p n f s s' x y ho hp hn hf hs hc hs2 hc2 =>
      exact absurd hk (by show ¬ 3 = 2; decide)
    | @put a dx p s s' x y ho hp hs hc hs2 hc2 =>
      exact absurd hk (by show ¬ 4 = 2; decide)
    | @tell a dx p s s' x y ho hp hs hc hs2 hc2 =>
      exact absurd hk (by show ¬ 5 = 2; decide)
    | @store a dx p s s' x y ho hp hs hc hs2 hc2 =>
      exact absurd hk (by show ¬ 6 = 2; decide)
abbrev sTo3 : Stmt := inClass (top 35) 1
theorem scTo3 : FnScope ["self"] ["self"] (defScope sTo3) := ⟨rfl, rfl, rfl, by decide +kernel, rfl, by decide +kernel, by decide +kernel⟩
theorem ok_To3 {f : Addr} {fd : FuncData} (F : Fun K "told" "Two.told" sTo3 f fd) (T : Ct K mg C fi) : FnOk P w K mg base CX0 1 f fd ["self"] (spTold C 3) := by
  refine F.ok scTo3 (fun vs H Q E h => ?_) (fun cdv A outer s H vs Q E hr h => ?_)
  · obtain ⟨v, pu, d, rfl, _⟩ := h
    rfl
  · obtain ⟨v, pu, d, rfl, hv, hk, q⟩ := h
    refine ⟨_, pss_one (ps_ret (pe_tup (pa_cons pe_str (pa_cons (pe_fld (pv 0) rfl) (pa_cons (pe_fld (pv 0) rfl) (pa_cons (pe_fld (pv 0) rfl) (pa_cons (pe_fld (pv 0) rfl) pa_nil))))))), ?_⟩
    cases hv with
    | @get a dx p n s x ho hp hn hs hc =>
      exact absurd hk (by show ¬ 0 = 3; decide)
    | @ask a dx p n s x ho hp hn hs hc =>
      exact absurd hk (by show ¬ 1 = 3; decide)
    | @cell a dx p n s x ho hp hn hs hc =>
      exact absurd hk (by show ¬ 2 = 3; decide)
    | @two a dx p n f s s' x y ho hp hn hf hs hc hs2 hc2 =>
      exact ⟨_, rfl, a, C 3, dx, _, _, rfl, ho, T.cls 3 (by decide), T.na 3 (by decide) "to" (by decide +kernel), rfl, _, rfl, a, C 3, dx, _, _, rfl, ho, T.cls 3 (by decide), T.na 3 (by decide) "op" (by decide +kernel), rfl, _, rfl, a, C 3, dx, _, _, rfl, ho, T.cls 3 (by decide), T.na 3 (by decide) "one" (by decide +kernel), rfl, _, rfl, a, C 3, dx, _, _, rfl, ho, T.cls 3 (by decide), T.na 3 (by decide) "other" (by decide +kernel), rfl, (by show 5 ≤ sizeLine; decide), fun t ht => q t _ ht hp⟩
    | @put a dx p s s' x y ho hp hs hc hs2 hc2 =>
      exact absurd hk (by show ¬ 4 = 3; decide)
    | @tell a dx p s s' x y ho hp hs hc hs2 hc2 =>
      exact absurd hk (by show ¬ 5 = 3; decide)
    | @store a dx p s s' x y ho hp hs hc hs2 hc2 =>
      exact absurd hk (by show ¬ 6 = 3; decide)
abbrev sTo4 : Stmt := inClass (top 36) 1
theorem scTo4 : FnScope ["self"] ["self"] (defScope sTo4) := ⟨rfl, rfl, rfl, by decide +kernel, rfl, by decide +kernel, by decide +kernel⟩
theorem ok_To4 {f : Addr} {fd : FuncData} (F : Fun K "told" "Put.told" sTo4 f fd) (T : Ct K mg C fi) : FnOk P w K mg base CX0 1 f fd ["self"] (spTold C 4) := by
  refine F.ok scTo4 (fun vs H Q E h => ?_) (fun cdv A outer s H vs Q E hr h => ?_)
  · obtain ⟨v, pu, d, rfl, _⟩ := h
    rfl
  · obtain ⟨v, pu, d, rfl, hv, hk, q⟩ := h
    refine ⟨_, pss_one (ps_ret (pe_tup (pa_cons pe_str (pa_cons (pe_fld (pv 0) rfl) (pa_cons (pe_fld (pv 0) rfl) pa_nil))))), ?_⟩
    cases hv with
    | @get a dx p n s x ho hp hn hs hc =>
      exact absurd hk (by show ¬ 0 = 4; decide)
    | @ask a dx p n s x ho hp hn hs hc =>
      exact absurd hk (by show ¬ 1 = 4; decide)
    | @cell a dx p n s x ho hp hn hs hc =>
      exact absurd hk (by show ¬ 2 = 4; decide)
    | @two a dx p n f s s' x y ho hp hn hf hs hc hs2 hc2 =>
      exact absurd hk (by show ¬ 3 = 4; decide)
    | @put a dx p s s' x y ho hp hs hc hs2 hc2 =>
      exact ⟨_, rfl, a, C 4, dx, _, _, rfl, ho, T.cls 4 (by decide), T.na 4 (by decide) "sel" (by decide +kernel), rfl, _, rfl, a, C 4, dx, _, _, rfl, ho, T.cls 4 (by decide), T.na 4 (by decide) "source" (by decide +kernel), rfl, (by show 3 ≤ sizeLine; decide), fun t ht => q t _ ht hp⟩
    | @tell a dx p s s' x y ho hp hs hc hs2 hc2 =>
      exact absurd hk (by show ¬ 5 = 4; decide)
    | @store a dx p s s' x y ho hp hs hc hs2 hc2 =>
      exact absurd hk (by show ¬ 6 = 4; decide)
abbrev sTo5 : Stmt := inClass (top 37) 1
theorem scTo5 : FnScope ["self"] ["self"] (defScope sTo5) := ⟨rfl, rfl, rfl, by decide +kernel, rfl, by decide +kernel, by decide +kernel⟩
theorem ok_To5 {f : Addr} {fd : FuncData} (F : Fun K "told" "Tell.told" sTo5 f fd) (T : Ct K mg C fi) : FnOk P w K mg base CX0 1 f fd ["self"] (spTold C 5) := by
  refine F.ok scTo5 (fun vs H Q E h => ?_) (fun cdv A outer s H vs Q E hr h => ?_)
  · obtain ⟨v, pu, d, rfl, _⟩ := h
    rfl
  · obtain ⟨v, pu, d, rfl, hv, hk, q⟩ := h
    refine ⟨_, pss_one (ps_ret (pe_tup (pa_cons pe_str (pa_cons (pe_fld (pv 0) rfl) (pa_cons (pe_fld (pv 0) rfl) pa_nil))))), ?_⟩
    cases hv with
    | @get a dx p n s x ho hp hn hs hc =>
      exact absurd hk (by show ¬ 0 = 5; decide)
    | @ask a dx p n s x ho hp hn hs hc =>
      exact absurd hk (by show ¬ 1 = 5; decide)
    | @cell a dx p n s x ho hp hn hs hc =>
      exact absurd hk (by show ¬ 2 = 5; decide)
    | @two a dx p n f s s' x y ho hp hn hf hs hc hs2 hc2 =>
      exact absurd hk (by show ¬ 3 = 5; decide)
    | @put a dx p s s' x y ho hp hs hc hs2 hc2 =>
      exact absurd hk (by show ¬ 4 = 5; decide)
    | @tell a dx p s s' x y ho hp hs hc hs2 hc2 =>
      exact ⟨_, rfl, a, C 5, dx, _, _, rfl, ho, T.cls 5 (by decide), T.na 5 (by decide) "sel" (by decide +kernel), rfl, _, rfl, a, C 5, dx, _, _, rfl, ho, T.cls 5 (by decide), T.na 5 (by decide) "source" (by decide +kernel), rfl, (by show 3 ≤ sizeLine; decide), fun t ht => q t _ ht hp⟩
    | @store a dx p s s' x y ho hp hs hc hs2 hc2 =>
      exact absurd hk (by show ¬ 6 = 5; decide)
abbrev sTo6 : Stmt := inClass (top 38) 1
theorem scTo6 : FnScope ["self"] ["self"] (defScope sTo6) := ⟨rfl, rfl, rfl, by decide +kernel, rfl, by decide +kernel, by decide +kernel⟩
theorem ok_To6 {f : Addr} {fd : FuncData} (F : Fun K "told" "Store.told" sTo6 f fd) (T : Ct K mg C fi) : FnOk P w K mg base CX0 1 f fd ["self"] (spTold C 6) := by
  refine F.ok scTo6 (fun vs H Q E h => ?_) (fun cdv A outer s H vs Q E hr h => ?_)
  · obtain ⟨v, pu, d, rfl, _⟩ := h
    rfl
  · obtain ⟨v, pu, d, rfl, hv, hk, q⟩ := h
    refine ⟨_, pss_one (ps_ret (pe_tup (pa_cons pe_str (pa_cons (pe_fld (pv 0) rfl) (pa_cons (pe_fld (pv 0) rfl) pa_nil))))), ?_⟩
    cases hv with
    | @get a dx p n s x ho hp hn hs hc =>
      exact absurd hk (by show ¬ 0 = 6; decide)
    | @ask a dx p n s x ho hp hn hs hc =>
      exact absurd hk (by show ¬ 1 = 6; decide)
    | @cell a dx p n s x ho hp hn hs hc =>
      exact absurd hk (by show ¬ 2 = 6; decide)
    | @two a dx p n f s s' x y ho hp hn hf hs hc hs2 hc2 =>
      exact absurd hk (by show ¬ 3 = 6; decide)
    | @put a dx p s s' x y ho hp hs hc hs2 hc2 =>
      exact absurd hk (by show ¬ 4 = 6; decide)
    | @tell a dx p s s' x y ho hp hs hc hs2 hc2 =>
      exact absurd hk (by show ¬ 5 = 6; decide)
    | @store a dx p s s' x y ho hp hs hc hs2 hc2 =>
      exact ⟨_, rfl, a, C 6, dx, _, _, rfl, ho, T.cls 6 (by decide), T.na 6 (by decide) "at" (by decide +kernel), rfl, _, rfl, a, C 6, dx, _, _, rfl, ho, T.cls 6 (by decide), T.na 6 (by decide) "source" (by decide +kernel), rfl, (by show 3 ≤ sizeLine; decide), fun t ht => q t _ ht hp⟩
abbrev sWo0 : Stmt := inClass (top 32) 2
theorem scWo0 : FnScope ["self"] ["self"] (defScope sWo0) := ⟨rfl, rfl, rfl, by decide +kernel, rfl, by decide +kernel, by decide +kernel⟩
set_option maxHeartbeats 1000000 in
theorem ok_Wo0 {f : Addr} {fd : FuncData} (F : Fun K "words" "Get.words" sWo0 f fd) (T : Ct K mg C fi) (SO : Fn P w K mg base "source_words" 1 ["source"] (spPartW "r" SrcC)) (PL : Fn P w K mg base "place_words" 1 ["sel"] (spPartW "p" SelC)) (MA : Fn P w K mg base "mark_words" 1 ["sel"] (spPartW "m" SelC)) : FnOk P w K mg base CX0 2 f fd ["self"] (spWords C 0) := by
  refine F.ok scWo0 (fun vs H Q E h => ?_) (fun cdv A outer s H vs Q E hr h => ?_)
  · obtain ⟨v, u, d, rfl, _⟩ := h
    rfl
  · obtain ⟨v, u, d, rfl, hv, hk, q⟩ := h
    have hr1 : Room 1 _ := hr
    refine ⟨_, pss_one (ps_ret (pe_fstr (pj_lit (pj_val (pe_fld (pv 0) rfl) (pj_lit (pj_val (pe_fn PL hr1 rfl (pa_cons (pe_fld (pv 0) rfl) pa_nil)) pj_nil)))))), ?_⟩
    cases hv with
    | @get a dx p n s x ho hp hn hs hc =>
      have ln := ns_len hn
      have lx := part_len (l := "p") (by decide +kernel) hc.bd
      have ll0 : ("get r" : Str).length ≤ 8 := by decide +kernel
      have ll1 : (" " : Str).length ≤ 8 := by decide +kernel
      unfold ns at ln
      refine ⟨(by decide +kernel), ?_⟩
      rw [emp_app]
      refine ⟨_, rfl, a, C 0, dx, _, _, rfl, ho, T.cls 0 (by decide), T.na 0 (by decide) "to" (by decide +kernel), rfl, .inl ⟨_, rfl, small8 _ hn, sz9 (by simp only [len_app]; omega), ?_⟩⟩
      refine ⟨sz9 (by simp only [len_app]; omega), ?_⟩
      refine ⟨_, rfl, a, C 0, dx, _, _, rfl, ho, T.cls 0 (by decide), T.na 0 (by decide) "sel" (by decide +kernel), rfl, s, x, rfl, hs, hc, .inr ⟨_, rfl, sz9 (by omega), sz9 (by simp only [len_app]; omega), ?_⟩⟩
      exact ⟨sz9 (by simp only [len_app]; omega), q⟩
    | @ask a dx p n s x ho hp hn hs hc =>
      exact absurd hk (by show ¬ 1 = 0; decide)
    | @cell a dx p n s x ho hp hn hs hc =>
      exact absurd hk (by show ¬ 2 = 0; decide)
    | @two a dx p n f s s' x y ho hp hn hf hs hc hs2 hc2 =>
      exact absurd hk (by show ¬ 3 = 0; decide)
    | @put a dx p s s' x y ho hp hs hc hs2 hc2 =>
      exact absurd hk (by show ¬ 4 = 0; decide)
    | @tell a dx p s s' x y ho hp hs hc hs2 hc2 =>
      exact absurd hk (by show ¬ 5 = 0; decide)
    | @store a dx p s s' x y ho hp hs hc hs2 hc2 =>
      exact absurd hk (by show ¬ 6 = 0; decide)
abbrev sWo1 : Stmt := inClass (top 33) 2
theorem scWo1 : FnScope ["self"] ["self"] (defScope sWo1) := ⟨rfl, rfl, rfl, by decide +kernel, rfl, by decide +kernel, by decide +kernel⟩
set_option maxHeartbeats 1000000 in
theorem ok_Wo1 {f : Addr} {fd : FuncData} (F : Fun K "words" "Ask.words" sWo1 f fd) (T : Ct K mg C fi) (SO : Fn P w K mg base "source_words" 1 ["source"] (spPartW "r" SrcC)) (PL : Fn P w K mg base "place_words" 1 ["sel"] (spPartW "p" SelC)) (MA : Fn P w K mg base "mark_words" 1 ["sel"] (spPartW "m" SelC)) : FnOk P w K mg base CX0 2 f fd ["self"] (spWords C 1) := by
  refine F.ok scWo1 (fun vs H Q E h => ?_) (fun cdv A outer s H vs Q E hr h => ?_)
  · obtain ⟨v, u, d, rfl, _⟩ := h
    rfl
  · obtain ⟨v, u, d, rfl, hv, hk, q⟩ := h
    have hr1 : Room 1 _ := hr
    refine ⟨_, pss_one (ps_ret (pe_fstr (pj_lit (pj_val (pe_fld (pv 0) rfl) (pj_lit (pj_val (pe_fn MA hr1 rfl (pa_cons (pe_fld (pv 0) rfl) pa_nil)) pj_nil)))))), ?_⟩
    cases hv with
    | @get a dx p n s x ho hp hn hs hc =>
      exact absurd hk (by show ¬ 0 = 1; decide)
    | @ask a dx p n s x ho hp hn hs hc =>
      have ln := ns_len hn
      have lx := part_len (l := "m") (by decide +kernel) hc.bd
      have ll0 : ("ask r" : Str).length ≤ 8 := by decide +kernel
      have ll1 : (" " : Str).length ≤ 8 := by decide +kernel
      unfold ns at ln
      refine ⟨(by decide +kernel), ?_⟩
      rw [emp_app]
      refine ⟨_, rfl, a, C 1, dx, _, _, rfl, ho, T.cls 1 (by decide), T.na 1 (by decide) "to" (by decide +kernel), rfl, .inl ⟨_, rfl, small8 _ hn, sz9 (by simp only [len_app]; omega), ?_⟩⟩
      refine ⟨sz9 (by simp only [len_app]; omega), ?_⟩
      refine ⟨_, rfl, a, C 1, dx, _, _, rfl, ho, T.cls 1 (by decide), T.na 1 (by decide) "sel" (by decide +kernel), rfl, s, x, rfl, hs, hc, .inr ⟨_, rfl, sz9 (by omega), sz9 (by simp only [len_app]; omega), ?_⟩⟩
      exact ⟨sz9 (by simp only [len_app]; omega), q⟩
    | @cell a dx p n s x ho hp hn hs hc =>
      exact absurd hk (by show ¬ 2 = 1; decide)
    | @two a dx p n f s s' x y ho hp hn hf hs hc hs2 hc2 =>
      exact absurd hk (by show ¬ 3 = 1; decide)
    | @put a dx p s s' x y ho hp hs hc hs2 hc2 =>
      exact absurd hk (by show ¬ 4 = 1; decide)
    | @tell a dx p s s' x y ho hp hs hc hs2 hc2 =>
      exact absurd hk (by show ¬ 5 = 1; decide)
    | @store a dx p s s' x y ho hp hs hc hs2 hc2 =>
      exact absurd hk (by show ¬ 6 = 1; decide)
abbrev sWo2 : Stmt := inClass (top 34) 2
theorem scWo2 : FnScope ["self"] ["self"] (defScope sWo2) := ⟨rfl, rfl, rfl, by decide +kernel, rfl, by decide +kernel, by decide +kernel⟩
set_option maxHeartbeats 1000000 in
theorem ok_Wo2 {f : Addr} {fd : FuncData} (F : Fun K "words" "Cell.words" sWo2 f fd) (T : Ct K mg C fi) (SO : Fn P w K mg base "source_words" 1 ["source"] (spPartW "r" SrcC)) (PL : Fn P w K mg base "place_words" 1 ["sel"] (spPartW "p" SelC)) (MA : Fn P w K mg base "mark_words" 1 ["sel"] (spPartW "m" SelC)) : FnOk P w K mg base CX0 2 f fd ["self"] (spWords C 2) := by
  refine F.ok scWo2 (fun vs H Q E h => ?_) (fun cdv A outer s H vs Q E hr h => ?_)
  · obtain ⟨v, u, d, rfl, _⟩ := h
    rfl
  · obtain ⟨v, u, d, rfl, hv, hk, q⟩ := h
    have hr1 : Room 1 _ := hr
    refine ⟨_, pss_one (ps_ret (pe_fstr (pj_lit (pj_val (pe_fld (pv 0) rfl) (pj_lit (pj_val (pe_fn SO hr1 rfl (pa_cons (pe_fld (pv 0) rfl) pa_nil)) pj_nil)))))), ?_⟩
    cases hv with
    | @get a dx p n s x ho hp hn hs hc =>
      exact absurd hk (by show ¬ 0 = 2; decide)
    | @ask a dx p n s x ho hp hn hs hc =>
      exact absurd hk (by show ¬ 1 = 2; decide)
    | @cell a dx p n s x ho hp hn hs hc =>
      have ln := ns_len hn
      have lx := part_len (l := "r") (by decide +kernel) hc.bd
      have ll0 : ("cell r" : Str).length ≤ 8 := by decide +kernel
      have ll1 : (" " : Str).length ≤ 8 := by decide +kernel
      unfold ns at ln
      refine ⟨(by decide +kernel), ?_⟩
      rw [emp_app]
      refine ⟨_, rfl, a, C 2, dx, _, _, rfl, ho, T.cls 2 (by decide), T.na 2 (by decide) "to" (by decide +kernel), rfl, .inl ⟨_, rfl, small8 _ hn, sz9 (by simp only [len_app]; omega), ?_⟩⟩
      refine ⟨sz9 (by simp only [len_app]; omega), ?_⟩
      refine ⟨_, rfl, a, C 2, dx, _, _, rfl, ho, T.cls 2 (by decide), T.na 2 (by decide) "source" (by decide +kernel), rfl, s, x, rfl, hs, hc, .inr ⟨_, rfl, sz9 (by omega), sz9 (by simp only [len_app]; omega), ?_⟩⟩
      exact ⟨sz9 (by simp only [len_app]; omega), q⟩
    | @two a dx p n f s s' x y ho hp hn hf hs hc hs2 hc2 =>
      exact absurd hk (by show ¬ 3 = 2; decide)
    | @put a dx p s s' x y ho hp hs hc hs2 hc2 =>
      exact absurd hk (by show ¬ 4 = 2; decide)
    | @tell a dx p s s' x y ho hp hs hc hs2 hc2 =>
      exact absurd hk (by show ¬ 5 = 2; decide)
    | @store a dx p s s' x y ho hp hs hc hs2 hc2 =>
      exact absurd hk (by show ¬ 6 = 2; decide)
abbrev sWo3 : Stmt := inClass (top 35) 2
theorem scWo3 : FnScope ["self"] ["self"] (defScope sWo3) := ⟨rfl, rfl, rfl, by decide +kernel, rfl, by decide +kernel, by decide +kernel⟩
set_option maxHeartbeats 1000000 in
theorem ok_Wo3 {f : Addr} {fd : FuncData} (F : Fun K "words" "Two.words" sWo3 f fd) (T : Ct K mg C fi) (SO : Fn P w K mg base "source_words" 1 ["source"] (spPartW "r" SrcC)) (PL : Fn P w K mg base "place_words" 1 ["sel"] (spPartW "p" SelC)) (MA : Fn P w K mg base "mark_words" 1 ["sel"] (spPartW "m" SelC)) : FnOk P w K mg base CX0 2 f fd ["self"] (spWords C 3) := by
  refine F.ok scWo3 (fun vs H Q E h => ?_) (fun cdv A outer s H vs Q E hr h => ?_)
  · obtain ⟨v, u, d, rfl, _⟩ := h
    rfl
  · obtain ⟨v, u, d, rfl, hv, hk, q⟩ := h
    have hr1 : Room 1 _ := hr
    refine ⟨_, pss_one (ps_ret (pe_fstr (pj_lit (pj_val (pe_fld (pv 0) rfl) (pj_lit (pj_val (pe_fld (pv 0) rfl) (pj_lit (pj_val (pe_fn SO hr1 rfl (pa_cons (pe_fld (pv 0) rfl) pa_nil)) (pj_lit (pj_val (pe_fn SO hr1 rfl (pa_cons (pe_fld (pv 0) rfl) pa_nil)) pj_nil)))))))))), ?_⟩
    cases hv with
    | @get a dx p n s x ho hp hn hs hc =>
      exact absurd hk (by show ¬ 0 = 3; decide)
    | @ask a dx p n s x ho hp hn hs hc =>
      exact absurd hk (by show ¬ 1 = 3; decide)
    | @cell a dx p n s x ho hp hn hs hc =>
      exact absurd hk (by show ¬ 2 = 3; decide)
    | @two a dx p n f s s' x y ho hp hn hf hs hc hs2 hc2 =>
      have ln := ns_len hn
      have lf := op_len f hf
      have lx := part_len (l := "r") (by decide +kernel) hc.bd
      have ly := part_len (l := "r") (by decide +kernel) hc2.bd
      have ll0 : ("two r" : Str).length ≤ 8 := by decide +kernel
      have ll1 : (" " : Str).length ≤ 8 := by decide +kernel
      have ll2 : (" " : Str).length ≤ 8 := by decide +kernel
      have ll3 : (" " : Str).length ≤ 8 := by decide +kernel
      unfold ns at ln
      refine ⟨(by decide +kernel), ?_⟩
      rw [emp_app]
      refine ⟨_, rfl, a, C 3, dx, _, _, rfl, ho, T.cls 3 (by decide), T.na 3 (by decide) "to" (by decide +kernel), rfl, .inl ⟨_, rfl, small8 _ hn, sz9 (by simp only [len_app]; omega), ?_⟩⟩
      refine ⟨sz9 (by simp only [len_app]; omega), ?_⟩
      refine ⟨_, rfl, a, C 3, dx, _, _, rfl, ho, T.cls 3 (by decide), T.na 3 (by decide) "op" (by decide +kernel), rfl, .inr ⟨_, rfl, sz9 (by omega), sz9 (by simp only [len_app]; omega), ?_⟩⟩
      refine ⟨sz9 (by simp only [len_app]; omega), ?_⟩
      refine ⟨_, rfl, a, C 3, dx, _, _, rfl, ho, T.cls 3 (by decide), T.na 3 (by decide) "one" (by decide +kernel), rfl, s, x, rfl, hs, hc, .inr ⟨_, rfl, sz9 (by omega), sz9 (by simp only [len_app]; omega), ?_⟩⟩
      refine ⟨sz9 (by simp only [len_app]; omega), ?_⟩
      refine ⟨_, rfl, a, C 3, dx, _, _, rfl, ho, T.cls 3 (by decide), T.na 3 (by decide) "other" (by decide +kernel), rfl, s', y, rfl, hs2, hc2, .inr ⟨_, rfl, sz9 (by omega), sz9 (by simp only [len_app]; omega), ?_⟩⟩
      exact ⟨sz9 (by simp only [len_app]; omega), q⟩
    | @put a dx p s s' x y ho hp hs hc hs2 hc2 =>
      exact absurd hk (by show ¬ 4 = 3; decide)
    | @tell a dx p s s' x y ho hp hs hc hs2 hc2 =>
      exact absurd hk (by show ¬ 5 = 3; decide)
    | @store a dx p s s' x y ho hp hs hc hs2 hc2 =>
      exact absurd hk (by show ¬ 6 = 3; decide)
abbrev sWo4 : Stmt := inClass (top 36) 2
theorem scWo4 : FnScope ["self"] ["self"] (defScope sWo4) := ⟨rfl, rfl, rfl, by decide +kernel, rfl, by decide +kernel, by decide +kernel⟩
set_option maxHeartbeats 1000000 in
theorem ok_Wo4 {f : Addr} {fd : FuncData} (F : Fun K "words" "Put.words" sWo4 f fd) (T : Ct K mg C fi) (SO : Fn P w K mg base "source_words" 1 ["source"] (spPartW "r" SrcC)) (PL : Fn P w K mg base "place_words" 1 ["sel"] (spPartW "p" SelC)) (MA : Fn P w K mg base "mark_words" 1 ["sel"] (spPartW "m" SelC)) : FnOk P w K mg base CX0 2 f fd ["self"] (spWords C 4) := by
  refine F.ok scWo4 (fun vs H Q E h => ?_) (fun cdv A outer s H vs Q E hr h => ?_)
  · obtain ⟨v, u, d, rfl, _⟩ := h
    rfl
  · obtain ⟨v, u, d, rfl, hv, hk, q⟩ := h
    have hr1 : Room 1 _ := hr
    refine ⟨_, pss_one (ps_ret (pe_fstr (pj_lit (pj_val (pe_fn PL hr1 rfl (pa_cons (pe_fld (pv 0) rfl) pa_nil)) (pj_lit (pj_val (pe_fn SO hr1 rfl (pa_cons (pe_fld (pv 0) rfl) pa_nil)) pj_nil)))))), ?_⟩
    cases hv with
    | @get a dx p n s x ho hp hn hs hc =>
      exact absurd hk (by show ¬ 0 = 4; decide)
    | @ask a dx p n s x ho hp hn hs hc =>
      exact absurd hk (by show ¬ 1 = 4; decide)
    | @cell a dx p n s x ho hp hn hs hc =>
      exact absurd hk (by show ¬ 2 = 4; decide)
    | @two a dx p n f s s' x y ho hp hn hf hs hc hs2 hc2 =>
      exact absurd hk (by show ¬ 3 = 4; decide)
    | @put a dx p s s' x y ho hp hs hc hs2 hc2 =>
      have lx := part_len (l := "p") (by decide +kernel) hc.bd
      have ly := part_len (l := "r") (by decide +kernel) hc2.bd
      have ll0 : ("put " : Str).length ≤ 8 := by decide +kernel
      have ll1 : (" " : Str).length ≤ 8 := by decide +kernel
      skip
      refine ⟨(by decide +kernel), ?_⟩
      rw [emp_app]
      refine ⟨_, rfl, a, C 4, dx, _, _, rfl, ho, T.cls 4 (by decide), T.na 4 (by decide) "sel" (by decide +kernel), rfl, s, x, rfl, hs, hc, .inr ⟨_, rfl, sz9 (by omega), sz9 (by simp only [len_app]; omega), ?_⟩⟩
      refine ⟨sz9 (by simp only [len_app]; omega), ?_⟩
      refine ⟨_, rfl, a, C 4, dx, _, _, rfl, ho, T.cls 4 (by decide), T.na 4 (by decide) "source" (by decide +kernel), rfl, s', y, rfl, hs2, hc2, .inr ⟨_, rfl, sz9 (by omega), sz9 (by simp only [len_app]; omega), ?_⟩⟩
      exact ⟨sz9 (by simp only [len_app]; omega), q⟩
    | @tell a dx p s s' x y ho hp hs hc hs2 hc2 =>
      exact absurd hk (by show ¬ 5 = 4; decide)
    | @store a dx p s s' x y ho hp hs hc hs2 hc2 =>
      exact absurd hk (by show ¬ 6 = 4; decide)
abbrev sWo5 : Stmt := inClass (top 37) 2
theorem scWo5 : FnScope ["self"] ["self"] (defScope sWo5) := ⟨rfl, rfl, rfl, by decide +kernel, rfl, by decide +kernel, by decide +kernel⟩
set_option maxHeartbeats 1000000 in
theorem ok_Wo5 {f : Addr} {fd : FuncData} (F : Fun K "words" "Tell.words" sWo5 f fd) (T : Ct K mg C fi) (SO : Fn P w K mg base "source_words" 1 ["source"] (spPartW "r" SrcC)) (PL : Fn P w K mg base "place_words" 1 ["sel"] (spPartW "p" SelC)) (MA : Fn P w K mg base "mark_words" 1 ["sel"] (spPartW "m" SelC)) : FnOk P w K mg base CX0 2 f fd ["self"] (spWords C 5) := by
  refine F.ok scWo5 (fun vs H Q E h => ?_) (fun cdv A outer s H vs Q E hr h => ?_)
  · obtain ⟨v, u, d, rfl, _⟩ := h
    rfl
  · obtain ⟨v, u, d, rfl, hv, hk, q⟩ := h
    have hr1 : Room 1 _ := hr
    refine ⟨_, pss_one (ps_ret (pe_fstr (pj_lit (pj_val (pe_fn MA hr1 rfl (pa_cons (pe_fld (pv 0) rfl) pa_nil)) (pj_lit (pj_val (pe_fn SO hr1 rfl (pa_cons (pe_fld (pv 0) rfl) pa_nil)) pj_nil)))))), ?_⟩
    cases hv with
    | @get a dx p n s x ho hp hn hs hc =>
      exact absurd hk (by show ¬ 0 = 5; decide)
    | @ask a dx p n s x ho hp hn hs hc =>
      exact absurd hk (by show ¬ 1 = 5; decide)
    | @cell a dx p n s x ho hp hn hs hc =>
      exact absurd hk (by show ¬ 2 = 5; decide)
    | @two a dx p n f s s' x y ho hp hn hf hs hc hs2 hc2 =>
      exact absurd hk (by show ¬ 3 = 5; decide)
    | @put a dx p s s' x y ho hp hs hc hs2 hc2 =>
      exact absurd hk (by show ¬ 4 = 5; decide)
    | @tell a dx p s s' x y ho hp hs hc hs2 hc2 =>
      have lx := part_len (l := "m") (by decide +kernel) hc.bd
      have ly := part_len (l := "r") (by decide +kernel) hc2.bd
      have ll0 : ("tell " : Str).length ≤ 8 := by decide +kernel
      have ll1 : (" " : Str).length ≤ 8 := by decide +kernel
      skip
      refine ⟨(by decide +kernel), ?_⟩
      rw [emp_app]
      refine ⟨_, rfl, a, C 5, dx, _, _, rfl, ho, T.cls 5 (by decide), T.na 5 (by decide) "sel" (by decide +kernel), rfl, s, x, rfl, hs, hc, .inr ⟨_, rfl, sz9 (by omega), sz9 (by simp only [len_app]; omega), ?_⟩⟩
      refine ⟨sz9 (by simp only [len_app]; omega), ?_⟩
      refine ⟨_, rfl, a, C 5, dx, _, _, rfl, ho, T.cls 5 (by decide), T.na 5 (by decide) "source" (by decide +kernel), rfl, s', y, rfl, hs2, hc2, .inr ⟨_, rfl, sz9 (by omega), sz9 (by simp only [len_app]; omega), ?_⟩⟩
      exact ⟨sz9 (by simp only [len_app]; omega), q⟩
    | @store a dx p s s' x y ho hp hs hc hs2 hc2 =>
      exact absurd hk (by show ¬ 6 = 5; decide)
abbrev sWo6 : Stmt := inClass (top 38) 2
theorem scWo6 : FnScope ["self"] ["self"] (defScope sWo6) := ⟨rfl, rfl, rfl, by decide +kernel, rfl, by decide +kernel, by decide +kernel⟩
set_option maxHeartbeats 1000000 in
theorem ok_Wo6 {f : Addr} {fd : FuncData} (F : Fun K "words" "Store.words" sWo6 f fd) (T : Ct K mg C fi) (SO : Fn P w K mg base "source_words" 1 ["source"] (spPartW "r" SrcC)) (PL : Fn P w K mg base "place_words" 1 ["sel"] (spPartW "p" SelC)) (MA : Fn P w K mg base "mark_words" 1 ["sel"] (spPartW "m" SelC)) : FnOk P w K mg base CX0 2 f fd ["self"] (spWords C 6) := by
  refine F.ok scWo6 (fun vs H Q E h => ?_) (fun cdv A outer s H vs Q E hr h => ?_)
  · obtain ⟨v, u, d, rfl, _⟩ := h
    rfl
  · obtain ⟨v, u, d, rfl, hv, hk, q⟩ := h
    have hr1 : Room 1 _ := hr
    refine ⟨_, pss_one (ps_ret (pe_fstr (pj_lit (pj_val (pe_fn SO hr1 rfl (pa_cons (pe_fld (pv 0) rfl) pa_nil)) (pj_lit (pj_val (pe_fn SO hr1 rfl (pa_cons (pe_fld (pv 0) rfl) pa_nil)) pj_nil)))))), ?_⟩
    cases hv with
    | @get a dx p n s x ho hp hn hs hc =>
      exact absurd hk (by show ¬ 0 = 6; decide)
    | @ask a dx p n s x ho hp hn hs hc =>
      exact absurd hk (by show ¬ 1 = 6; decide)
    | @cell a dx p n s x ho hp hn hs hc =>
      exact absurd hk (by show ¬ 2 = 6; decide)
    | @two a dx p n f s s' x y ho hp hn hf hs hc hs2 hc2 =>
      exact absurd hk (by show ¬ 3 = 6; decide)
    | @put a dx p s s' x y ho hp hs hc hs2 hc2 =>
      exact absurd hk (by show ¬ 4 = 6; decide)
    | @tell a dx p s s' x y ho hp hs hc hs2 hc2 =>
      exact absurd hk (by show ¬ 5 = 6; decide)
    | @store a dx p s s' x y ho hp hs hc hs2 hc2 =>
      have lx := part_len (l := "r") (by decide +kernel) hc.bd
      have ly := part_len (l := "r") (by decide +kernel) hc2.bd
      have ll0 : ("store " : Str).length ≤ 8 := by decide +kernel
      have ll1 : (" " : Str).length ≤ 8 := by decide +kernel
      skip
      refine ⟨(by decide +kernel), ?_⟩
      rw [emp_app]
      refine ⟨_, rfl, a, C 6, dx, _, _, rfl, ho, T.cls 6 (by decide), T.na 6 (by decide) "at" (by decide +kernel), rfl, s, x, rfl, hs, hc, .inr ⟨_, rfl, sz9 (by omega), sz9 (by simp only [len_app]; omega), ?_⟩⟩
      refine ⟨sz9 (by simp only [len_app]; omega), ?_⟩
      refine ⟨_, rfl, a, C 6, dx, _, _, rfl, ho, T.cls 6 (by decide), T.na 6 (by decide) "source" (by decide +kernel), rfl, s', y, rfl, hs2, hc2, .inr ⟨_, rfl, sz9 (by omega), sz9 (by simp only [len_app]; omega), ?_⟩⟩
      exact ⟨sz9 (by simp only [len_app]; omega), q⟩
end
end L3

set_option Elab.async false
set_option linter.all false
set_option maxRecDepth 100000
namespace L3
open PySem L2
theorem Strm.kt {p : Addr} {H H' : Hp} (g : Strm H p) (b : But p H H') : TupK H H' := fun a xs e => b a _ e (by
  rintro rfl
  obtain ⟨x, y, z, h⟩ := g
  rw [h] at e
  cases e)
def spLSource : Sp := fun vs H Q _ => ∃ p : Addr, vs = [.ref p] ∧ Strm H p ∧ ∀ v x H', Pt H' v x → SrcC x → Strm H' p → But p H H' → Q v H'
def spLSel : Sp := fun vs H Q _ => ∃ p : Addr, vs = [.ref p] ∧ Strm H p ∧ ∀ v x H', Pt H' v x → SelC x → Strm H' p → But p H H' → Q v H'
def spLStep : Sp := fun vs H Q _ => ∃ p : Addr, vs = [.ref p] ∧ Strm H p ∧ ∀ v d H', TolD H' v d → Strm H' p → But p H H' → Q v H'
theorem ops_at {r : Nat} (h : r < 9) : ∃ f ∈ opsL, atI (opsL.map V.str) (r : Int) = some (.str f) := by
  rcases (by omega : r = 0 ∨ r = 1 ∨ r = 2 ∨ r = 3 ∨ r = 4 ∨ r = 5 ∨ r = 6 ∨ r = 7 ∨ r = 8) with rfl | rfl | rfl | rfl | rfl | rfl | rfl | rfl | rfl <;> exact ⟨_, by decide +kernel, rfl⟩
section
variable {P : Program} {w : World} {K : PySem.W.Frag} {mg : Str → Option Value} {base : Heap}
theorem scLSel : FnScope ["_law_stream_here"] ["_law_stream_here"] (defScope sLSel) := ⟨rfl, rfl, rfl, by decide +kernel, rfl, by decide +kernel, by decide +kernel⟩
theorem scLSource : FnScope ["_law_stream_here", "_law_way"] ["_law_stream_here"] (defScope sLSource) := ⟨rfl, rfl, rfl, by decide +kernel, rfl, by decide +kernel, by decide +kernel⟩
theorem scLStep : FnScope ["_law_stream_here", "_law_word", "_law_op"] ["_law_stream_here"] (defScope sLStep) := ⟨rfl, rfl, rfl, by decide +kernel, rfl, by decide +kernel, by decide +kernel⟩
set_option maxHeartbeats 1000000 in
theorem ok_lSel {f : Addr} {fd : FuncData} (F : Fun K "_law_sel" "_law_sel" sLSel f fd) (TK : Fn P w K mg base "_law_take" 1 ["_law_stream_here", "_law_many"] spTake) : FnOk P w K mg base CX0 2 f fd ["_law_stream_here"] spLSel := by
  refine F.ok scLSel (fun vs H Q E h => ?_) (fun cdv A outer s H vs Q E hr h => ?_)
  · obtain ⟨p, rfl, _⟩ := h
    rfl
  · obtain ⟨p, rfl, hp, q⟩ := h
    have hr1 : Room 1 _ := hr
    refine ⟨_, pss_one (ps_ret (pe_ix ix_list (pe_lst (pa_cons (pe_tup (pa_cons pe_str (pa_cons (pe_fn TK hr1 rfl (pa_cons (pv 0) (pa_cons pe_int pa_nil))) pa_nil))) (pa_cons (pe_tup (pa_cons pe_str (pa_cons (pe_fn TK hr1 rfl (pa_cons (pv 0) (pa_cons pe_int pa_nil))) pa_nil))) pa_nil))) (pe_fn TK hr1 rfl (pa_cons (pv 0) (pa_cons pe_int pa_nil))) (fun _ _ => rfl))), ?_⟩
    refine ⟨_, rfl, p, 4, rfl, hp, by decide, by decide, fun r1 H1 l1 g1 b1 => ⟨(by show 2 ≤ sizeLine; decide), fun t1 n1 => ?_⟩⟩
    have s1 := same_new (o := .tup [.str "is", .int r1]) n1
    have e1 : (upd H1 t1 (.tup [.str "is", .int r1])) t1 = some (.tup [.str "is", .int r1]) := upd_same
    have g1' := g1.same s1
    have c1 := b1.same s1
    generalize upd H1 t1 (.tup [.str "is", .int r1]) = J1 at *
    refine ⟨_, rfl, p, 3, rfl, g1', by decide, by decide, fun r2 H2 l2 g2 b2 => ⟨(by show 2 ≤ sizeLine; decide), fun t2 n2 => ?_⟩⟩
    have s2 := same_new (o := .tup [.str "by", .int r2]) n2
    have e2 : (upd H2 t2 (.tup [.str "by", .int r2])) t2 = some (.tup [.str "by", .int r2]) := upd_same
    have g2' := g2.same s2
    have c2 := (c1.trans b2).same s2
    have e12 := (kt_same s2) _ _ ((g1'.kt b2) _ _ e1)
    generalize upd H2 t2 (.tup [.str "by", .int r2]) = J2 at *
    refine ⟨(by show 2 ≤ sizeLine; decide), fun lm nm => ?_⟩
    have s3 := same_new (o := .lst [.ref t1, .ref t2]) nm
    have e3 : (upd J2 lm (.lst [.ref t1, .ref t2])) lm = some (.lst [.ref t1, .ref t2]) := upd_same
    have g3' := g2'.same s3
    have c3 := c2.same s3
    have f1 := s3 _ _ e12
    have f2 := s3 _ _ e2
    have ne := (g2'.ne nm).symm
    generalize upd J2 lm (.lst [.ref t1, .ref t2]) = J3 at *
    refine ⟨_, rfl, p, 2, rfl, g3', by decide, by decide, fun r3 H3 l3 g3 b3 => ?_⟩
    have k3 := g3'.kt b3
    have e4 := b3 _ _ e3 ne
    rcases (by omega : r3 = 0 ∨ r3 = 1) with rfl | rfl
    · exact ⟨lm, _, _, .ref t1, rfl, rfl, SqL.of e4, rfl, q _ (("is" : Str), (r1 : Int)) _ ⟨t1, rfl, k3 _ _ f1⟩ (.inl ⟨rfl, by show (0 : Int) ≤ (r1 : Int); omega, by show (r1 : Int) ≤ 3; omega⟩) g3 (c3.trans b3)⟩
    · exact ⟨lm, _, _, .ref t2, rfl, rfl, SqL.of e4, rfl, q _ (("by" : Str), (r2 : Int)) _ ⟨t2, rfl, k3 _ _ f2⟩ (.inr ⟨rfl, by show (0 : Int) ≤ (r2 : Int); omega, by show (r2 : Int) ≤ 2; omega⟩) g3 (c3.trans b3)⟩
set_option maxHeartbeats 1000000 in
theorem ok_lSource {f : Addr} {fd : FuncData} (F : Fun K "_law_source" "_law_source" sLSource f fd) (TK : Fn P w K mg base "_law_take" 1 ["_law_stream_here", "_law_many"] spTake) : FnOk P w K mg base CX0 2 f fd ["_law_stream_here"] spLSource := by
  refine F.ok scLSource (fun vs H Q E h => ?_) (fun cdv A outer s H vs Q E hr h => ?_)
  · obtain ⟨p, rfl, _⟩ := h
    rfl
  · obtain ⟨p, rfl, hp, q⟩ := h
    have hr1 : Room 1 _ := hr
    refine ⟨_, pss_cons (ps_set (i := 1) scLSource.nd rfl (Or.inl rfl) (pe_fn TK hr1 rfl (pa_cons (pv 0) (pa_cons pe_int pa_nil))))
      (pss_cons (ps_if (pt_cmpR op_eq (pv 1) pe_int (nomark _)) (pss_one (ps_ret (pe_tup (pa_cons pe_str (pa_cons (pe_fn TK hr1 rfl (pa_cons (pv 0) (pa_cons pe_int pa_nil))) pa_nil))))) pss_nil)
      (pss_cons (ps_if (pt_cmpR op_eq (pv 1) pe_int (nomark _)) (pss_one (ps_ret (pe_tup (pa_cons pe_str (pa_cons (pe_fn TK hr1 rfl (pa_cons (pv 0) (pa_cons (pe_ix ix_list (pe_lst (pa_cons pe_int (pa_cons (pe_op op_pow pe_int pe_int) pa_nil))) (pe_fn TK hr1 rfl (pa_cons (pv 0) (pa_cons pe_int pa_nil))) (fun _ _ => rfl)) pa_nil))) pa_nil))))) pss_nil)
      (pss_one (ps_ret (pe_tup (pa_cons pe_str (pa_cons (pe_fn TK hr1 rfl (pa_cons (pv 0) (pa_cons pe_int pa_nil))) pa_nil))))))), ?_⟩
    refine ⟨_, rfl, p, 4, rfl, hp, by decide, by decide, fun r1 H1 l1 g1 b1 => ?_⟩
    refine ⟨_, rfl, rfl, _, rfl, ite2 (fun h => ?_) (fun h => ?_)⟩
    · refine ⟨_, rfl, p, 3, rfl, g1, by decide, by decide, fun r2 H2 l2 g2 b2 => ⟨(by show 2 ≤ sizeLine; decide), fun t nt => ?_⟩⟩
      have s3 := same_new (o := .tup [.str "field", .int r2]) nt
      exact q _ (("field" : Str), (r2 : Int)) _ ⟨t, rfl, upd_same⟩ (.inr (.inr ⟨rfl, by show (0 : Int) ≤ (r2 : Int); omega, by show (r2 : Int) ≤ 2; omega⟩)) (g2.same s3) ((b1.trans b2).same s3)
    · refine ⟨_, rfl, rfl, _, rfl, ite2 (fun h2 => ?_) (fun h2 => ?_)⟩
      · refine ⟨_, rfl, _, _, rfl, rfl, ⟨by decide, by decide, by decide⟩, (by show 2 ≤ sizeLine; decide), fun lm nm => ?_⟩
        have s2 := same_new (o := .lst [.int 4, .int 16777216]) nm
        have e2 : (upd H1 lm (.lst [.int 4, .int 16777216])) lm = some (.lst [.int 4, .int 16777216]) := upd_same
        have g2 := g1.same s2
        refine ⟨_, rfl, p, 2, rfl, g2, by decide, by decide, fun r3 H3 l3 g3 b3 => ?_⟩
        have e3 := b3 _ _ e2 (g1.ne nm).symm
        obtain ⟨k, ek, k0, k1⟩ : ∃ k : Nat, atI [V.int 4, V.int 16777216] (r3 : Int) = some (.int k) ∧ 0 < k ∧ k ≤ 16777216 := by
          rcases (by omega : r3 = 0 ∨ r3 = 1) with rfl | rfl
          · exact ⟨4, rfl, by decide, by decide⟩
          · exact ⟨16777216, rfl, by decide, by decide⟩
        refine ⟨lm, _, _, _, rfl, rfl, SqL.of e3, ek, p, k, rfl, g3, k0, by omega, fun r4 H4 l4 g4 b4 => ⟨(by show 2 ≤ sizeLine; decide), fun t nt => ?_⟩⟩
        have s5 := same_new (o := .tup [.str "number", .int r4]) nt
        exact q _ (("number" : Str), (r4 : Int)) _ ⟨t, rfl, upd_same⟩ (.inr (.inl ⟨rfl, by show (0 : Int) ≤ (r4 : Int); omega, by show (r4 : Int) ≤ 16777215; omega⟩)) (g4.same s5) ((((b1.same s2).trans b3).trans b4).same s5)
      · refine ⟨_, rfl, p, 8, rfl, g1, by decide, by decide, fun r2 H2 l2 g2 b2 => ⟨(by show 2 ≤ sizeLine; decide), fun t nt => ?_⟩⟩
        have s3 := same_new (o := .tup [.str "in", .int r2]) nt
        exact q _ (("in" : Str), (r2 : Int)) _ ⟨t, rfl, upd_same⟩ (.inl ⟨rfl, by show (0 : Int) ≤ (r2 : Int); omega, by show (r2 : Int) ≤ 7; omega⟩) (g2.same s3) ((b1.trans b2).same s3)
set_option maxHeartbeats 4000000 in
theorem ok_lStep {f : Addr} {fd : FuncData} (F : Fun K "_law_step" "_law_step" sLStep f fd) (TK : Fn P w K mg base "_law_take" 1 ["_law_stream_here", "_law_many"] spTake) (SO : Fn P w K mg base "_law_source" 2 ["_law_stream_here"] spLSource) (SE : Fn P w K mg base "_law_sel" 2 ["_law_stream_here"] spLSel) :
    FnOk P w K mg base CX0 3 f fd ["_law_stream_here"] spLStep := by
  refine F.ok scLStep (fun vs H Q E h => ?_) (fun cdv A outer s H vs Q E hr h => ?_)
  · obtain ⟨p, rfl, _⟩ := h
    rfl
  · obtain ⟨p, rfl, hp, q⟩ := h
    have hr1 : Room 1 _ := hr.mono (by decide)
    refine ⟨_, pss_cons (ps_set (i := 1) scLStep.nd rfl (Or.inl rfl) (pe_ix ix_list (pe_lst (pa_cons pe_str (pa_cons pe_str (pa_cons pe_str (pa_cons pe_str (pa_cons pe_str (pa_cons pe_str (pa_cons pe_str (pa_cons pe_str pa_nil))))))))) (pe_fn TK hr1 rfl (pa_cons (pv 0) (pa_cons pe_int pa_nil))) (fun _ _ => rfl)))
      (pss_cons (ps_if (PW.pt (pw_or (pt_cmpR op_eq (pv 1) pe_str (nomark _)) (pw_or1 (pt_cmpR op_eq (pv 1) pe_str (nomark _))))) (pss_one (ps_ret (pe_tup (pa_cons (pv 1) (pa_cons (pe_fn TK hr1 rfl (pa_cons (pv 0) (pa_cons pe_int pa_nil))) (pa_cons (pe_fn SE hr rfl (pa_cons (pv 0) pa_nil)) pa_nil)))))) pss_nil)
      (pss_cons (ps_if (pt_cmpR op_eq (pv 1) pe_str (nomark _)) (pss_one (ps_ret (pe_tup (pa_cons (pv 1) (pa_cons (pe_fn TK hr1 rfl (pa_cons (pv 0) (pa_cons pe_int pa_nil))) (pa_cons (pe_fn SO hr rfl (pa_cons (pv 0) pa_nil)) pa_nil)))))) pss_nil)
      (pss_cons (ps_if (pt_cmpR op_eq (pv 1) pe_str (nomark _)) (pss_cons (ps_set (i := 2) scLStep.nd rfl (Or.inl rfl) (pe_ix ix_list (pe_lst (pa_cons pe_str (pa_cons pe_str (pa_cons pe_str (pa_cons pe_str (pa_cons pe_str (pa_cons pe_str (pa_cons pe_str (pa_cons pe_str (pa_cons pe_str pa_nil)))))))))) (pe_fn TK hr1 rfl (pa_cons (pv 0) (pa_cons pe_int pa_nil))) (fun _ _ => rfl))) (pss_one (ps_ret (pe_tup (pa_cons (pv 1) (pa_cons (pe_fn TK hr1 rfl (pa_cons (pv 0) (pa_cons pe_int pa_nil))) (pa_cons (pv 2) (pa_cons (pe_fn SO hr rfl (pa_cons (pv 0) pa_nil)) (pa_cons (pe_fn SO hr rfl (pa_cons (pv 0) pa_nil)) pa_nil))))))))) pss_nil)
      (pss_cons (ps_if (pt_cmpR op_eq (pv 1) pe_str (nomark _)) (pss_one (ps_ret (pe_tup (pa_cons (pv 1) (pa_cons (pe_fn SO hr rfl (pa_cons (pv 0) pa_nil)) (pa_cons (pe_fn SO hr rfl (pa_cons (pv 0) pa_nil)) pa_nil)))))) pss_nil)
      (pss_one (ps_ret (pe_tup (pa_cons (pv 1) (pa_cons (pe_fn SE hr rfl (pa_cons (pv 0) pa_nil)) (pa_cons (pe_fn SO hr rfl (pa_cons (pv 0) pa_nil)) pa_nil)))))))))), ?_⟩
    refine ⟨(by show 8 ≤ sizeLine; decide), fun l0 n0 => ?_⟩
    have s0 := same_new (o := .lst [V.str "get", V.str "ask", V.str "cell", V.str "two", V.str "put", V.str "tell", V.str "store", V.str "two"]) n0
    have e0 : (upd H l0 (.lst [V.str "get", V.str "ask", V.str "cell", V.str "two", V.str "put", V.str "tell", V.str "store", V.str "two"])) l0 = some (.lst [V.str "get", V.str "ask", V.str "cell", V.str "two", V.str "put", V.str "tell", V.str "store", V.str "two"]) := upd_same
    have g0 := hp.same s0
    have c0 : But p H (upd H l0 (.lst [V.str "get", V.str "ask", V.str "cell", V.str "two", V.str "put", V.str "tell", V.str "store", V.str "two"])) := but_of s0
    have ne0 := (hp.ne n0).symm
    generalize upd H l0 (.lst [V.str "get", V.str "ask", V.str "cell", V.str "two", V.str "put", V.str "tell", V.str "store", V.str "two"]) = H0 at *
    refine ⟨_, rfl, p, 8, rfl, g0, by decide, by decide, fun r1 H1 l1 g1 b1 => ?_⟩
    have e1 := b1 _ _ e0 ne0
    have c1 := c0.trans b1
    rcases (by omega : r1 = 0 ∨ r1 = 1 ∨ r1 = 2 ∨ r1 = 3 ∨ r1 = 4 ∨ r1 = 5 ∨ r1 = 6 ∨ r1 = 7) with rfl | rfl | rfl | rfl | rfl | rfl | rfl | rfl
    · refine ⟨l0, _, _, .str "get", rfl, rfl, SqL.of e1, rfl, ?_⟩
      refine ⟨_, rfl, rfl, _, rfl, iteA (by decide +kernel) ?_⟩
      refine ⟨_, rfl, _, rfl, p, 8, rfl, g1, by decide, by decide, fun r2 H2 l2 g2 b2 => ⟨_, rfl, p, rfl, g2, fun v x H3 hv hx g3 b3 => ⟨(by show 3 ≤ sizeLine; decide), fun t nt => ?_⟩⟩⟩
      have s4 := same_new (o := .tup [.str "get", .int r2, v]) nt
      exact q _ (.get r2 x) _ (.get upd_same l2 (hv.kt (kt_same s4)) hx) (g3.same s4) (((c1.trans b2).trans b3).same s4)
    · refine ⟨l0, _, _, .str "ask", rfl, rfl, SqL.of e1, rfl, ?_⟩
      refine ⟨_, rfl, rfl, _, rfl, iteB (by decide +kernel) ?_⟩
      refine ⟨_, rfl, rfl, _, rfl, iteA (by decide +kernel) ?_⟩
      refine ⟨_, rfl, _, rfl, p, 8, rfl, g1, by decide, by decide, fun r2 H2 l2 g2 b2 => ⟨_, rfl, p, rfl, g2, fun v x H3 hv hx g3 b3 => ⟨(by show 3 ≤ sizeLine; decide), fun t nt => ?_⟩⟩⟩
      have s4 := same_new (o := .tup [.str "ask", .int r2, v]) nt
      exact q _ (.ask r2 x) _ (.ask upd_same l2 (hv.kt (kt_same s4)) hx) (g3.same s4) (((c1.trans b2).trans b3).same s4)
    · refine ⟨l0, _, _, .str "cell", rfl, rfl, SqL.of e1, rfl, ?_⟩
      refine ⟨_, rfl, rfl, _, rfl, iteB (by decide +kernel) ?_⟩
      refine ⟨_, rfl, rfl, _, rfl, iteB (by decide +kernel) ?_⟩
      refine ⟨_, rfl, rfl, _, rfl, iteA (by decide +kernel) ?_⟩
      refine ⟨_, rfl, _, rfl, p, 8, rfl, g1, by decide, by decide, fun r2 H2 l2 g2 b2 => ⟨_, rfl, p, rfl, g2, fun v x H3 hv hx g3 b3 => ⟨(by show 3 ≤ sizeLine; decide), fun t nt => ?_⟩⟩⟩
      have s4 := same_new (o := .tup [.str "cell", .int r2, v]) nt
      exact q _ (.cell r2 x) _ (.cell upd_same l2 (hv.kt (kt_same s4)) hx) (g3.same s4) (((c1.trans b2).trans b3).same s4)
    · refine ⟨l0, _, _, .str "two", rfl, rfl, SqL.of e1, rfl, ?_⟩
      refine ⟨_, rfl, rfl, _, rfl, iteB (by decide +kernel) ?_⟩
      refine ⟨_, rfl, rfl, _, rfl, iteB (by decide +kernel) ?_⟩
      refine ⟨_, rfl, rfl, _, rfl, iteB (by decide +kernel) ?_⟩
      refine ⟨_, rfl, rfl, _, rfl, iteA (by decide +kernel) ?_⟩
      refine ⟨(by show 9 ≤ sizeLine; decide), fun lo no => ?_⟩
      have so := same_new (o := .lst [V.str "+", V.str "-", V.str "&", V.str "|", V.str "^", V.str "<<", V.str ">>", V.str "<", V.str "="]) no
      have eo : (upd H1 lo (.lst [V.str "+", V.str "-", V.str "&", V.str "|", V.str "^", V.str "<<", V.str ">>", V.str "<", V.str "="])) lo = some (.lst [V.str "+", V.str "-", V.str "&", V.str "|", V.str "^", V.str "<<", V.str ">>", V.str "<", V.str "="]) := upd_same
      have go := g1.same so
      have co := c1.same so
      have neo := (g1.ne no).symm
      generalize upd H1 lo (.lst [V.str "+", V.str "-", V.str "&", V.str "|", V.str "^", V.str "<<", V.str ">>", V.str "<", V.str "="]) = H1o at *
      refine ⟨_, rfl, p, 9, rfl, go, by decide, by decide, fun r2 H2 l2 g2 b2 => ?_⟩
      obtain ⟨fo, hfo, efo⟩ := ops_at l2
      refine ⟨lo, _, _, .str fo, rfl, rfl, SqL.of (b2 _ _ eo neo), efo, ?_⟩
      refine ⟨_, rfl, _, rfl, p, 8, rfl, g2, by decide, by decide, fun r3 H3 l3 g3 b3 => ⟨_, rfl, _, rfl, p, rfl, g3, fun v x H4 hv hx g4 b4 => ⟨_, rfl, p, rfl, g4, fun v2 y H5 hv2 hy g5 b5 => ⟨(by show 5 ≤ sizeLine; decide), fun t nt => ?_⟩⟩⟩⟩
      have s4 := same_new (o := .tup [.str "two", .int r3, .str fo, v, v2]) nt
      exact q _ (.two r3 fo x y) _ (.two upd_same l3 hfo ((hv.kt (g4.kt b5)).kt (kt_same s4)) hx (hv2.kt (kt_same s4)) hy) (g5.same s4) (((((co.trans b2).trans b3).trans b4).trans b5).same s4)
    · refine ⟨l0, _, _, .str "put", rfl, rfl, SqL.of e1, rfl, ?_⟩
      refine ⟨_, rfl, rfl, _, rfl, iteB (by decide +kernel) ?_⟩
      refine ⟨_, rfl, rfl, _, rfl, iteB (by decide +kernel) ?_⟩
      refine ⟨_, rfl, rfl, _, rfl, iteB (by decide +kernel) ?_⟩
      refine ⟨_, rfl, rfl, _, rfl, iteB (by decide +kernel) ?_⟩
      refine ⟨_, rfl, rfl, _, rfl, iteB (by decide +kernel) ?_⟩
      refine ⟨_, rfl, _, rfl, p, rfl, g1, fun v x H4 hv hx g4 b4 => ⟨_, rfl, p, rfl, g4, fun v2 y H5 hv2 hy g5 b5 => ⟨(by show 3 ≤ sizeLine; decide), fun t nt => ?_⟩⟩⟩
      have s4 := same_new (o := .tup [.str "put", v, v2]) nt
      exact q _ (.put x y) _ (.put upd_same ((hv.kt (g4.kt b5)).kt (kt_same s4)) hx (hv2.kt (kt_same s4)) hy) (g5.same s4) (((c1.trans b4).trans b5).same s4)
    · refine ⟨l0, _, _, .str "tell", rfl, rfl, SqL.of e1, rfl, ?_⟩
      refine ⟨_, rfl, rfl, _, rfl, iteB (by decide +kernel) ?_⟩
      refine ⟨_, rfl, rfl, _, rfl, iteB (by decide +kernel) ?_⟩
      refine ⟨_, rfl, rfl, _, rfl, iteB (by decide +kernel) ?_⟩
      refine ⟨_, rfl, rfl, _, rfl, iteB (by decide +kernel) ?_⟩
      refine ⟨_, rfl, rfl, _, rfl, iteB (by decide +kernel) ?_⟩
      refine ⟨_, rfl, _, rfl, p, rfl, g1, fun v x H4 hv hx g4 b4 => ⟨_, rfl, p, rfl, g4, fun v2 y H5 hv2 hy g5 b5 => ⟨(by show 3 ≤ sizeLine; decide), fun t nt => ?_⟩⟩⟩
      have s4 := same_new (o := .tup [.str "tell", v, v2]) nt
      exact q _ (.tell x y) _ (.tell upd_same ((hv.kt (g4.kt b5)).kt (kt_same s4)) hx (hv2.kt (kt_same s4)) hy) (g5.same s4) (((c1.trans b4).trans b5).same s4)
    · refine ⟨l0, _, _, .str "store", rfl, rfl, SqL.of e1, rfl, ?_⟩
      refine ⟨_, rfl, rfl, _, rfl, iteB (by decide +kernel) ?_⟩
      refine ⟨_, rfl, rfl, _, rfl, iteB (by decide +kernel) ?_⟩
      refine ⟨_, rfl, rfl, _, rfl, iteB (by decide +kernel) ?_⟩
      refine ⟨_, rfl, rfl, _, rfl, iteB (by decide +kernel) ?_⟩
      refine ⟨_, rfl, rfl, _, rfl, iteA (by decide +kernel) ?_⟩
      refine ⟨_, rfl, _, rfl, p, rfl, g1, fun v x H4 hv hx g4 b4 => ⟨_, rfl, p, rfl, g4, fun v2 y H5 hv2 hy g5 b5 => ⟨(by show 3 ≤ sizeLine; decide), fun t nt => ?_⟩⟩⟩
      have s4 := same_new (o := .tup [.str "store", v, v2]) nt
      exact q _ (.store x y) _ (.store upd_same ((hv.kt (g4.kt b5)).kt (kt_same s4)) hx (hv2.kt (kt_same s4)) hy) (g5.same s4) (((c1.trans b4).trans b5).same s4)
    · refine ⟨l0, _, _, .str "two", rfl, rfl, SqL.of e1, rfl, ?_⟩
      refine ⟨_, rfl, rfl, _, rfl, iteB (by decide +kernel) ?_⟩
      refine ⟨_, rfl, rfl, _, rfl, iteB (by decide +kernel) ?_⟩
      refine ⟨_, rfl, rfl, _, rfl, iteB (by decide +kernel) ?_⟩
      refine ⟨_, rfl, rfl, _, rfl, iteA (by decide +kernel) ?_⟩
      refine ⟨(by show 9 ≤ sizeLine; decide), fun lo no => ?_⟩
      have so := same_new (o := .lst [V.str "+", V.str "-", V.str "&", V.str "|", V.str "^", V.str "<<", V.str ">>", V.str "<", V.str "="]) no
      have eo : (upd H1 lo (.lst [V.str "+", V.str "-", V.str "&", V.str "|", V.str "^", V.str "<<", V.str ">>", V.str "<", V.str "="])) lo = some (.lst [V.str "+", V.str "-", V.str "&", V.str "|", V.str "^", V.str "<<", V.str ">>", V.str "<", V.str "="]) := upd_same
      have go := g1.same so
      have co := c1.same so
      have neo := (g1.ne no).symm
      generalize upd H1 lo (.lst [V.str "+", V.str "-", V.str "&", V.str "|", V.str "^", V.str "<<", V.str ">>", V.str "<", V.str "="]) = H1o at *
      refine ⟨_, rfl, p, 9, rfl, go, by decide, by decide, fun r2 H2 l2 g2 b2 => ?_⟩
      obtain ⟨fo, hfo, efo⟩ := ops_at l2
      refine ⟨lo, _, _, .str fo, rfl, rfl, SqL.of (b2 _ _ eo neo), efo, ?_⟩
      refine ⟨_, rfl, _, rfl, p, 8, rfl, g2, by decide, by decide, fun r3 H3 l3 g3 b3 => ⟨_, rfl, _, rfl, p, rfl, g3, fun v x H4 hv hx g4 b4 => ⟨_, rfl, p, rfl, g4, fun v2 y H5 hv2 hy g5 b5 => ⟨(by show 5 ≤ sizeLine; decide), fun t nt => ?_⟩⟩⟩⟩
      have s4 := same_new (o := .tup [.str "two", .int r3, .str fo, v, v2]) nt
      exact q _ (.two r3 fo x y) _ (.two upd_same l3 hfo ((hv.kt (g4.kt b5)).kt (kt_same s4)) hx (hv2.kt (kt_same s4)) hy) (g5.same s4) (((((co.trans b2).trans b3).trans b4).trans b5).same s4)
end
end L3

set_option Elab.async false
set_option linter.all false
set_option maxRecDepth 100000
namespace L3
open PySem L2
inductive Itm (H : Hp) (l : Str) : V → Str → Prop
  | part {v : V} {y : Part} : Pt H v y → (SelC y ∨ SrcC y) → Itm H l v (partT l y)
  | str (f : Str) : f.length ≤ 2 → Itm H l (.str f) f
  | int (n : Nat) : n < 8 → Itm H l (.int n) ("r" ++ ns n)
theorem Itm.kt {H H' : Hp} (k : TupK H H') {l : Str} {v : V} {z : Str} (h : Itm H l v z) : Itm H' l v z := by
  cases h with
  | part a b => exact .part (a.kt k) b
  | str _ a => exact .str _ a
  | int _ a => exact .int _ a
theorem pbd {y : Part} (h : SelC y ∨ SrcC y) : 0 ≤ y.2 ∧ y.2 ≤ 16777215 := h.elim SelC.bd SrcC.bd
theorem Itm.len {H : Hp} {l : Str} (hl : l.length ≤ 1) {v : V} {z : Str} (h : Itm H l v z) : z.length ≤ 1922 := by
  cases h with
  | part a b => exact part_len hl (pbd b)
  | str f a => omega
  | int n a =>
    have := ns_len a
    rw [len_app]
    have : ("r" : Str).length ≤ 1 := by decide +kernel
    omega
def ltr : Sd → Str
  | .get _ _ => "p"
  | .ask _ _ => "m"
  | .put _ _ => "p"
  | .tell _ _ => "m"
  | _ => "r"
def nmD : Sd → Str
  | .get _ _ => "get"
  | .ask _ _ => "ask"
  | .cell _ _ => "cell"
  | .two _ _ _ _ => "two"
  | .put _ _ => "put"
  | .tell _ _ => "tell"
  | .store _ _ => "store"
def wsD : Sd → List Str
  | .get n x => ["r" ++ ns n, partT "p" x]
  | .ask n x => ["r" ++ ns n, partT "m" x]
  | .cell n x => ["r" ++ ns n, partT "r" x]
  | .two n f x y => ["r" ++ ns n, f, partT "r" x, partT "r" y]
  | .put x y => [partT "p" x, partT "p" y]
  | .tell x y => [partT "m" x, partT "m" y]
  | .store x y => [partT "r" x, partT "r" y]
theorem ltr_len (d : Sd) : (ltr d).length ≤ 1 := by
  have h1 : ("p" : Str).length ≤ 1 := by decide +kernel
  have h2 : ("m" : Str).length ≤ 1 := by decide +kernel
  have h3 : ("r" : Str).length ≤ 1 := by decide +kernel
  cases d <;> assumption
theorem nmD_len (d : Sd) : (nmD d).length ≤ 5 := by
  have h0 : ("get" : Str).length ≤ 5 := by decide +kernel
  have h1 : ("ask" : Str).length ≤ 5 := by decide +kernel
  have h2 : ("cell" : Str).length ≤ 5 := by decide +kernel
  have h3 : ("two" : Str).length ≤ 5 := by decide +kernel
  have h4 : ("put" : Str).length ≤ 5 := by decide +kernel
  have h5 : ("tell" : Str).length ≤ 5 := by decide +kernel
  have h6 : ("store" : Str).length ≤ 5 := by decide +kernel
  cases d <;> assumption
theorem TolD.parts {H : Hp} {v : V} {d : Sd} (h : TolD H v d) : ∃ p xs, v = .ref p ∧ H p = some (.tup (.str (nmD d) :: xs)) ∧ Paired (Itm H (ltr d)) xs (wsD d) ∧ 2 ≤ xs.length ∧ xs.length ≤ 4 := by
  cases h with
  | get a b c e => exact ⟨_, _, rfl, a, .cons (.int _ b) (.cons (.part c (.inl e)) .nil), by simp, by simp⟩
  | ask a b c e => exact ⟨_, _, rfl, a, .cons (.int _ b) (.cons (.part c (.inl e)) .nil), by simp, by simp⟩
  | cell a b c e => exact ⟨_, _, rfl, a, .cons (.int _ b) (.cons (.part c (.inr e)) .nil), by simp, by simp⟩
  | two a b f c e g i => exact ⟨_, _, rfl, a, .cons (.int _ b) (.cons (.str _ (op_len _ f)) (.cons (.part c (.inr e)) (.cons (.part g (.inr i)) .nil))), by simp, by simp⟩
  | put a c e g i => exact ⟨_, _, rfl, a, .cons (.part c (.inl e)) (.cons (.part g (.inr i)) .nil), by simp, by simp⟩
  | tell a c e g i => exact ⟨_, _, rfl, a, .cons (.part c (.inl e)) (.cons (.part g (.inr i)) .nil), by simp, by simp⟩
  | store a c e g i => exact ⟨_, _, rfl, a, .cons (.part c (.inr e)) (.cons (.part g (.inr i)) .nil), by simp, by simp⟩
/-! the text -/
def cds (t : Str) : List Nat := t.cps.toList
def jnS (ws : List Str) : Str := S (TK.jn [32] (ws.map cds))
theorem S_cds (t : Str) : S (cds t) = t := (S_of t).symm
theorem app_assoc (a b c : Str) : a ++ b ++ c = a ++ (b ++ c) := by
  rw [← S_cds a, ← S_cds b, ← S_cds c, S_app, S_app, S_app, S_app, List.append_assoc]
theorem sp32 : S [32] = (" " : Str) := by decide +kernel
theorem jnS_one (a : Str) : jnS [a] = a := S_cds a
theorem jnS_cons (a b : Str) (r : List Str) : jnS (a :: b :: r) = a ++ (" " ++ jnS (b :: r)) := by
  show S (cds a ++ ([32] ++ TK.jn [32] (cds b :: r.map cds))) = _
  rw [← S_app, ← S_app, S_cds, sp32]
  rfl
theorem part_src {l : Str} {y : Part} (h : SrcC y) : partT l y = partT "r" y := by
  unfold partT
  have : preT l y.1 = preT "r" y.1 := by
    rcases h with ⟨e, _⟩ | ⟨e, _⟩ | ⟨e, _⟩ <;> (rw [e]; rfl)
  rw [this]
theorem words_jn {H : Hp} {v : V} {d : Sd} (h : TolD H v d) : jnS (nmD d :: wsD d) = wordsT d := by
  have c0 : ("get r" : Str) = "get" ++ (" " ++ "r") := by decide +kernel
  have c1 : ("ask r" : Str) = "ask" ++ (" " ++ "r") := by decide +kernel
  have c2 : ("cell r" : Str) = "cell" ++ (" " ++ "r") := by decide +kernel
  have c3 : ("two r" : Str) = "two" ++ (" " ++ "r") := by decide +kernel
  have c4 : ("put " : Str) = "put" ++ " " := by decide +kernel
  have c5 : ("tell " : Str) = "tell" ++ " " := by decide +kernel
  have c6 : ("store " : Str) = "store" ++ " " := by decide +kernel
  cases h with
  | get a b c e => simp only [nmD, wsD, wordsT, jnS_cons, jnS_one, c0, app_assoc]
  | ask a b c e => simp only [nmD, wsD, wordsT, jnS_cons, jnS_one, c1, app_assoc]
  | cell a b c e => simp only [nmD, wsD, wordsT, jnS_cons, jnS_one, c2, app_assoc]
  | two a b f c e g i => simp only [nmD, wsD, wordsT, jnS_cons, jnS_one, c3, app_assoc]
  | put a c e g i => simp only [nmD, wsD, wordsT, jnS_cons, jnS_one, c4, app_assoc, part_src (l := "p") i]
  | tell a c e g i => simp only [nmD, wsD, wordsT, jnS_cons, jnS_one, c5, app_assoc, part_src (l := "m") i]
  | store a c e g i => simp only [nmD, wsD, wordsT, jnS_cons, jnS_one, c6, app_assoc]
def kvsP (l : Str) : List (Key × V) := [(Sum.inr "is", .str l), (Sum.inr "by", .str "f"), (Sum.inr "in", .str "r"), (Sum.inr "field", .str "f"), (Sum.inr "number", .str "")]
theorem val_is (l : Str) : valV (mergeK [] (kvsP l)) (Sum.inr "is") = some (.str (preT l "is")) := by kernel_rfl
theorem val_by (l : Str) : valV (mergeK [] (kvsP l)) (Sum.inr "by") = some (.str (preT l "by")) := by kernel_rfl
theorem val_in (l : Str) : valV (mergeK [] (kvsP l)) (Sum.inr "in") = some (.str (preT l "in")) := by kernel_rfl
theorem val_field (l : Str) : valV (mergeK [] (kvsP l)) (Sum.inr "field") = some (.str (preT l "field")) := by kernel_rfl
theorem val_number (l : Str) : valV (mergeK [] (kvsP l)) (Sum.inr "number") = some (.str (preT l "number")) := by kernel_rfl
theorem val_part {l : Str} {y : Part} (h : SelC y ∨ SrcC y) : valV (mergeK [] (kvsP l)) (Sum.inr y.1) = some (.str (preT l y.1)) := by
  rcases h with (⟨e, _⟩ | ⟨e, _⟩) | ⟨e, _⟩ | ⟨e, _⟩ | ⟨e, _⟩ <;> rw [e]
  · exact val_is l
  · exact val_by l
  · exact val_in l
  · exact val_number l
  · exact val_field l
def kvsL : List (Key × V) := [(Sum.inr "get", .str "p"), (Sum.inr "ask", .str "m"), (Sum.inr "put", .str "p"), (Sum.inr "tell", .str "m")]
theorem val_ltr (d : Sd) : (valV (mergeK [] kvsL) (Sum.inr (nmD d))).getD (.str "r") = .str (ltr d) := by
  cases d <;> kernel_rfl
def spPT : Sp := fun vs H Q _ => ∃ v y l, vs = [v, .str l] ∧ l.length ≤ 1 ∧ Pt H v y ∧ (SelC y ∨ SrcC y) ∧ ∀ H', Same H H' → Q (.str (partT l y)) H'
def spST : Sp := fun vs H Q _ => ∃ v d, vs = [v] ∧ TolD H v d ∧ ∀ H', Same H H' → Q (.str (wordsT d)) H'
end L3

set_option Elab.async false
set_option linter.all false
set_option maxRecDepth 100000
namespace L3
open PySem L2
section
variable {P : Program} {w : World} {K : PySem.W.Frag} {mg : Str → Option Value} {base : Heap}
theorem scPartT : FnScope ["_law_part", "_law_letter", "_law_letters"] ["_law_part", "_law_letter"] (defScope sPartT) := ⟨rfl, rfl, rfl, by decide +kernel, rfl, by decide +kernel, by decide +kernel⟩
set_option maxHeartbeats 1000000 in
theorem ok_partT {f : Addr} {fd : FuncData} (F : Fun K "_law_part_text" "_law_part_text" sPartT f fd) (B : Bl mg) : FnOk P w K mg base CX0 1 f fd ["_law_part", "_law_letter"] spPT := by
  refine F.ok scPartT (fun vs H Q E h => ?_) (fun cdv A outer s H vs Q E hr h => ?_)
  · obtain ⟨v, y, l, rfl, _⟩ := h
    rfl
  · obtain ⟨v, y, l, rfl, hl, ⟨p, rfl, hp⟩, hy, q⟩ := h
    have hu := hu_of hr
    refine ⟨_, pss_cons (ps_set (i := 2) scPartT.nd rfl (Or.inl rfl) (pe_disp (pps_cons pe_str (pv 1) (pps_cons pe_str pe_str (pps_cons pe_str pe_str (pps_cons pe_str pe_str (pps_cons pe_str pe_str pps_nil))))) rfl rfl (by intro z; cases z) (by show 5 ≤ 15; decide)))
      (pss_one (ps_ret (pe_op op_add_str (pe_dget hu (pv 2) (pe_ix ix_tup (pv 0) pe_int (fun _ _ => rfl)) (fun _ _ => rfl)) (pe_callTy call_str_int (by rfl) B.str boot_str' (pa_cons (pe_ix ix_tup (pv 0) pe_int (fun _ _ => rfl)) pa_nil))))), ?_⟩
    have hb := pbd hy
    have ln := part_len hl hb
    refine fun d nd => ⟨_, rfl, upd_same, kvsP l, rfl, (by show 5 ≤ 15; decide), ?_⟩
    have s1 : Same H (upd (upd H d (.dK [])) d (.dK (mergeK [] (kvsP l)))) := same_mut nd (same_new nd)
    have e1 : (upd (upd H d (.dK [])) d (.dK (mergeK [] (kvsP l)))) d = some (.dK (mergeK [] (kvsP l))) := upd_same
    generalize upd (upd H d (.dK [])) d (.dK (mergeK [] (kvsP l))) = H1 at *
    have g : DGet H1 d (.str y.1) (some (.str (preT l y.1))) := by
      have := DGet.k (k := Sum.inr y.1) e1
      rw [val_part hy] at this
      exact this
    refine ⟨_, rfl, _, rfl, p, _, _, _, rfl, rfl, SqT.of (s1 _ _ hp), rfl, d, _, rfl, g, ?_⟩
    exact ⟨_, rfl, p, _, _, _, rfl, rfl, SqT.of (s1 _ _ hp), rfl, _, rfl, log_small hb.1 hb.2, _, _, rfl, rfl, (by have h9 := ln; unfold partT at h9; rw [len_app] at h9; exact Nat.le_trans h9 (by decide)), q _ s1⟩
theorem scStepT : FnScope ["_law_step_here", "_law_letter", "_law_words", "_law_part"] ["_law_step_here"] (defScope sStepT) := ⟨rfl, rfl, rfl, by decide +kernel, rfl, by decide +kernel, by decide +kernel⟩
set_option maxHeartbeats 4000000 in
theorem ok_stepT {f : Addr} {fd : FuncData} (F : Fun K "_law_step_text" "_law_step_text" sStepT f fd) (B : Bl mg) (PT : Fn P w K mg base "_law_part_text" 1 ["_law_part", "_law_letter"] spPT) : FnOk P w K mg base CX0 2 f fd ["_law_step_here"] spST := by
  refine F.ok scStepT (fun vs H Q E h => ?_) (fun cdv A outer s H vs Q E hr h => ?_)
  · obtain ⟨v, d, rfl, _⟩ := h
    rfl
  · obtain ⟨v, d, rfl, ht, q⟩ := h
    have hu := hu_of hr
    have hr1 : Room 1 _ := hr
    refine ⟨_, pss_cons (ps_set (i := 1) scStepT.nd rfl (Or.inl rfl) (pe_dget2 hu (pe_disp (pps_cons pe_str pe_str (pps_cons pe_str pe_str (pps_cons pe_str pe_str (pps_cons pe_str pe_str pps_nil)))) rfl rfl (by intro z; cases z) (by show 4 ≤ 15; decide)) (pe_ix ix_tup (pv 0) pe_int (fun _ _ => rfl)) pe_str ⟨rfl, rfl, rfl, rfl⟩))
      (pss_cons (ps_set (i := 2) scStepT.nd rfl (Or.inl rfl) (pe_lst (pa_cons (pe_ix ix_tup (pv 0) pe_int (fun _ _ => rfl)) pa_nil)))
      (pss_cons (ps_for PassesOwn.never rfl (pi_tup (pe_slice sl_tup (pv 0) (po_some pe_int) po_none)) (pg_name (i := 3) scStepT.nd rfl (Or.inl rfl))
        (pss_one (ps_if (pt_val (pe_callB (isi_ty (T := "tuple")) (by rfl) B.isinstance boot_isi (pa_cons (pv 3) (pa_cons (pe_ty (by rfl) B.tuple boot_tuple') pa_nil))))
          (pss_one (ps_expr (pe_bm PySem.F.plainAttrs_list PySem.F.slot_list_append PySem.F.type_list_append mt_append (pv 2) (pa_cons (pe_fn PT hr1 rfl (pa_cons (pv 3) (pa_cons (pv 1) pa_nil))) pa_nil))))
          (pss_one (ps_if (pt_val (pe_callB (isi_ty (T := "str")) (by rfl) B.isinstance boot_isi (pa_cons (pv 3) (pa_cons (pe_ty (by rfl) B.str boot_str') pa_nil))))
            (pss_one (ps_expr (pe_bm PySem.F.plainAttrs_list PySem.F.slot_list_append PySem.F.type_list_append mt_append (pv 2) (pa_cons (pv 3) pa_nil))))
            (pss_one (ps_expr (pe_bm PySem.F.plainAttrs_list PySem.F.slot_list_append PySem.F.type_list_append mt_append (pv 2) (pa_cons (pe_op op_add_str pe_str (pe_callTy call_str_int (by rfl) B.str boot_str' (pa_cons (pv 3) pa_nil))) pa_nil)))))))))
      (pss_one (ps_ret (pe_bm PySem.F.plainAttrs_str PySem.F.slot_str_join PySem.F.type_str_join mt_join pe_str (pa_cons (pv 2) pa_nil)))))), ?_⟩
    obtain ⟨p, xs, rfl, hp, hpr, x2, x4⟩ := ht.parts
    have hll := ltr_len d
    have lx := hpr.length
    refine fun dd nd => ⟨upd_same, kvsL, rfl, (by show 4 ≤ 15; decide), dd, rfl, .inl ⟨_, .inl upd_same⟩, ?_⟩
    have s1 : Same H (upd (upd H dd (.dK [])) dd (.dK (mergeK [] kvsL))) := same_mut nd (same_new nd)
    have e1 : (upd (upd H dd (.dK [])) dd (.dK (mergeK [] kvsL))) dd = some (.dK (mergeK [] kvsL)) := upd_same
    generalize upd (upd H dd (.dK [])) dd (.dK (mergeK [] kvsL)) = H1 at *
    have hp1 := s1 _ _ hp
    refine ⟨_, rfl, p, _, _, _, rfl, rfl, SqT.of hp1, at0 _ _, _, DGet.k (k := Sum.inr (nmD d)) e1, ?_⟩
    rw [val_ltr]
    refine ⟨_, rfl, p, _, _, _, rfl, rfl, SqT.of hp1, at0 _ _, (by show 1 ≤ sizeLine; decide), fun lw nw => ?_⟩
    have s2 := same_new (o := .lst [.str (nmD d)]) nw
    have e2 : (upd H1 lw (.lst [.str (nmD d)])) lw = some (.lst (strsV [nmD d])) := upd_same
    have s12 := s1.trans s2
    have n0 : H lw = none := s1.free nw
    generalize upd H1 lw (.lst [V.str (nmD d)]) = H2 at *
    have ec : cutV (V.str (nmD d) :: xs) (some 1) none = xs := by
      match xs, x2, x4 with
      | [_, _], _, _ => rfl
      | [_, _, _], _, _ => rfl
      | [_, _, _, _], _, _ => rfl
    refine ⟨_, rfl, _, rfl, p, _, rfl, SqT.of (s12 _ _ hp), ?_, fun tt nt => ?_⟩
    · intro z
      have := z.1
      first | (simp [HT.sIx] at this; done) | (simp [HT.sIx] at this; omega)
    rw [ec]
    have s3 := same_new (o := .tup xs) nt
    have e3 : (upd H2 tt (.tup xs)) tt = some (.tup xs) := upd_same
    have e2' := s3 _ _ e2
    have s13 := s12.trans s3
    have nlt : lw ≠ tt := ne_of_none e2 nt
    generalize upd H2 tt (.tup xs) = H3 at *
    refine ⟨tt, rfl, ⟨_, SqT.of e3⟩, ?_⟩
    refine for_tup (K := K) (a := tt) (xs := xs) (fun i σ H' => ∃ v3 : Option V, σ = [some (.ref p), some (.str (ltr d)), some (.ref lw), v3] ∧ Same H H' ∧ H' tt = some (.tup xs) ∧ H' lw = some (.lst (strsV (nmD d :: (wsD d).take i)))) ⟨_, rfl, s13, e3, e2'⟩ (fun i σ H' _ ⟨_, _, _, e, _⟩ => SqT.of e) ?_ ?_
    · rintro i x σ H' hx ⟨v3, rfl, sH, et, el⟩
      have hlt : i < xs.length := (List.getElem?_eq_some_iff.mp hx).1
      have hlt' : i < (wsD d).length := by omega
      have hxi : xs[i] = x := (List.getElem?_eq_some_iff.mp hx).2
      have key : ∀ {a : List V} {b : List Str}, Paired (Itm H (ltr d)) a b → ∀ (j : Nat) (h1 : j < a.length) (h2 : j < b.length), Itm H (ltr d) a[j] b[j] := by
        intro a b hp
        induction hp with
        | nil => intro j h1; simp at h1
        | cons hh _ ih =>
          intro j h1 h2
          cases j with
          | zero => exact hh
          | succ j => exact ih j (by simpa using h1) (by simpa using h2)
      have hit := key hpr i hlt hlt'
      rw [hxi] at hit
      have hzl := hit.len hll
      have tk : (wsD d).take (i + 1) = (wsD d).take i ++ [(wsD d)[i]] := by rw [List.take_succ, List.getElem?_eq_getElem hlt']; rfl
      generalize (wsD d)[i] = z at *
      have fin : ∀ H4, Same H' H4 → H4 lw = some (.lst (strsV (nmD d :: (wsD d).take i))) → H4 tt = some (.tup xs) → ∃ v3 : Option V, [some (V.ref p), some (.str (ltr d)), some (.ref lw), some x] = [some (.ref p), some (.str (ltr d)), some (.ref lw), v3] ∧ Same H (upd H4 lw (.lst (strsV (nmD d :: (wsD d).take i) ++ [.str z]))) ∧ (upd H4 lw (.lst (strsV (nmD d :: (wsD d).take i) ++ [.str z]))) tt = some (.tup xs) ∧ (upd H4 lw (.lst (strsV (nmD d :: (wsD d).take i) ++ [.str z]))) lw = some (.lst (strsV (nmD d :: (wsD d).take (i + 1)))) := by
        intro H4 s4 l4 t4
        refine ⟨_, rfl, same_mut n0 (sH.trans s4), by rw [upd_ne nlt.symm]; exact t4, ?_⟩
        rw [upd_same, tk]
        unfold strsV
        simp
      have lsz : (strsV (nmD d :: (wsD d).take i)).length < sizeLine := by
        unfold strsV
        rw [List.length_map, List.length_cons, List.length_take]
        have : (1000 : Nat) ≤ sizeLine := by decide
        omega
      cases hit with
      | @part v y a b =>
        obtain ⟨pp, rfl, hpp⟩ := id a
        refine ⟨_, rfl, _, _, _, rfl, .tup (sH _ _ hpp), rfl, _, rfl, iteT ?_⟩
        refine ⟨_, rfl, .inl ⟨rfl, _, SqL.of el⟩, _, rfl, _, rfl, .ref pp, y, ltr d, rfl, hll, a.kt (kt_same sH), b, fun H4 s4 => ?_⟩
        exact ⟨lw, _, _, rfl, rfl, s4 _ _ el, lsz, fin H4 s4 (s4 _ _ el) (s4 _ _ et)⟩
      | str f a =>
        refine ⟨_, rfl, _, _, _, rfl, .str _, rfl, _, rfl, iteF ?_⟩
        refine ⟨_, rfl, _, _, _, rfl, .str _, rfl, _, rfl, iteT ?_⟩
        refine ⟨_, rfl, .inl ⟨rfl, _, SqL.of el⟩, _, rfl, ?_⟩
        exact ⟨lw, _, _, rfl, rfl, el, lsz, fin H' (Same.refl _) el et⟩
      | int n a =>
        refine ⟨_, rfl, _, _, _, rfl, .int _, rfl, _, rfl, iteF ?_⟩
        refine ⟨_, rfl, _, _, _, rfl, .int _, rfl, _, rfl, iteF ?_⟩
        refine ⟨_, rfl, .inl ⟨rfl, _, SqL.of el⟩, _, rfl, _, rfl, small8 _ a, _, _, rfl, rfl, (by have h9 := hzl; rw [len_app] at h9; exact Nat.le_trans h9 (by decide)), ?_⟩
        exact ⟨lw, _, _, rfl, rfl, el, lsz, fin H' (Same.refl _) el et⟩
    · rintro σ H' ⟨v3, rfl, sH, et, el⟩
      have ewl : (wsD d).take xs.length = wsD d := by rw [lx, List.take_length]
      rw [ewl] at el
      have em : strsV (nmD d :: wsD d) = ((nmD d :: wsD d).map cds).map (fun t => V.str (S t)) := by
        unfold strsV
        rw [List.map_map]
        refine List.map_congr_left fun t _ => ?_
        show V.str t = V.str (S (cds t))
        rw [S_cds]
      rw [em] at el
      refine ⟨rfl, _, rfl, [32], lw, (nmD d :: wsD d).map cds, congrArg V.str sp32.symm, rfl, SqL.of el, ?_, ?_⟩
      · have hb : ∀ z ∈ nmD d :: wsD d, (cds z).length ≤ 1922 := by
          intro z hz
          rcases List.mem_cons.mp hz with rfl | hz
          · have := nmD_len d
            show (nmD d).cps.toList.length ≤ 1922
            rw [Array.length_toList]
            exact Nat.le_trans this (by decide)
          · have : ∀ {a : List V} {b : List Str}, Paired (Itm H (ltr d)) a b → ∀ z ∈ b, z.length ≤ 1922 := by
              intro a b hp
              induction hp with
              | nil => intro z hz; cases hz
              | cons hh _ ih =>
                intro z hz
                rcases List.mem_cons.mp hz with rfl | hz
                · exact hh.len hll
                · exact ih z hz
            have := this hpr z hz
            show z.cps.toList.length ≤ 1922
            rw [Array.length_toList]
            exact this
        have hs : ∀ l : List Str, (∀ z ∈ l, (cds z).length ≤ 1922) → ((l.map cds).map List.length).sum ≤ l.length * 1922 := by
          intro l
          induction l with
          | nil => intro _; simp
          | cons a l ih =>
            intro h
            have h1 := h a List.mem_cons_self
            have h2 := ih fun z hz => h z (List.mem_cons_of_mem _ hz)
            simp only [List.map_cons, List.sum_cons, List.length_cons]
            omega
        have := hs _ hb
        rw [List.length_map]
        simp only [List.length_cons, List.length_nil] at *
        omega
      · have := words_jn ht
        unfold jnS at this
        rw [this]
        exact q _ sH
end
end L3

set_option Elab.async false
set_option linter.all false
set_option maxRecDepth 100000
namespace L3
open PySem PySem.Spec L2 PyProof.Rows
/-! ### what the law says is read and written -/
theorem foldT_nodup (l : List Str) : (foldT l).Nodup ∧ ∀ x, x ∈ foldT l ↔ x ∈ l := by
  have h : ∀ (l acc : List Str), acc.Nodup → (l.foldl (fun ps k => insT k ps) acc).Nodup ∧ ∀ x, x ∈ l.foldl (fun ps k => insT k ps) acc ↔ x ∈ acc ∨ x ∈ l := by
    intro l
    induction l with
    | nil => intro acc h; exact ⟨h, fun x => by simp⟩
    | cons k l ih =>
      intro acc h
      have hi : (insT k acc).Nodup ∧ ∀ x, x ∈ insT k acc ↔ x ∈ acc ∨ x = k := by
        unfold insT
        by_cases hk : k ∈ acc
        · rw [if_pos hk]
          exact ⟨h, fun x => ⟨.inl, fun z => z.elim id fun e => e ▸ hk⟩⟩
        · rw [if_neg hk]
          refine ⟨List.nodup_append.mpr ⟨h, by simp, ?_⟩, fun x => by simp⟩
          intro y hy z hz e
          rw [List.mem_singleton.mp hz] at e
          exact hk (e ▸ hy)
      obtain ⟨a, b⟩ := ih _ hi.1
      refine ⟨a, fun x => ?_⟩
      rw [List.foldl_cons, b x, hi.2 x, List.mem_cons]
      constructor
      · rintro ((h | h) | h)
        · exact .inl h
        · exact .inr (.inl h)
        · exact .inr (.inr h)
      · rintro (h | h | h)
        · exact .inl (.inl h)
        · exact .inl (.inr h)
        · exact .inr h
  have := h l [] List.nodup_nil
  exact ⟨this.1, fun x => by simpa [foldT] using this.2 x⟩
/-- rising texts with the same members are one list -/
theorem cps_inj {a b : Str} (h : cds a = cds b) : a = b := by rw [← S_cds a, ← S_cds b, h]
def leS (a b : Str) : Prop := ltCps b.cps.toList a.cps.toList = false
theorem rising_pair : ∀ (p : Str) (l : List Str), PyProof.Rows.risingS p l = true → (p :: l).Pairwise leS
  | p, [], _ => by simp
  | p, x :: r, h => by
    have h' : (!ltCps x.cps.toList p.cps.toList && PyProof.Rows.risingS x r) = true := h
    rw [Bool.and_eq_true] at h'
    have ih := rising_pair x r h'.2
    have hpx : leS p x := by unfold leS; simpa using h'.1
    refine List.pairwise_cons.mpr ⟨fun y hy => ?_, ih⟩
    rcases List.mem_cons.mp hy with rfl | hy
    · exact hpx
    · have hxy := (List.pairwise_cons.mp ih).1 y hy
      unfold leS at hpx hxy ⊢
      rw [ltCps_eq, decide_eq_false_iff_not] at hpx hxy ⊢
      intro hlt
      exact hxy (Std.lt_of_lt_of_le hlt (Std.not_lt.mp hpx))
theorem sorted_pair {l : List Str} (h : PyProof.Rows.sortedS l = true) : l.Pairwise leS := by
  cases l with
  | nil => exact .nil
  | cons x r => exact rising_pair x r h
theorem leS_anti {a b : Str} (h1 : leS a b) (h2 : leS b a) : a = b := by
  unfold leS at h1 h2
  rw [ltCps_eq, decide_eq_false_iff_not] at h1 h2
  exact cps_inj (Std.le_antisymm (Std.not_lt.mp h1) (Std.not_lt.mp h2))
theorem rise_uniq : ∀ {a b : List Str}, a.Perm b → a.Pairwise leS → b.Pairwise leS → a = b
  | [], b, p, _, _ => (List.nil_perm.mp p).symm
  | x :: a, b, p, ha, hb => by
    cases b with
    | nil => exact absurd p.length_eq (by simp)
    | cons y b =>
      have e : x = y := by
        have m1 : x ∈ y :: b := p.subset List.mem_cons_self
        have m2 : y ∈ x :: a := p.symm.subset List.mem_cons_self
        rcases List.mem_cons.mp m1 with z | z
        · exact z
        · rcases List.mem_cons.mp m2 with z2 | z2
          · exact z2.symm
          · exact leS_anti (List.rel_of_pairwise_cons ha z2) (List.rel_of_pairwise_cons hb z)
      subst e
      rw [rise_uniq (List.Perm.cons_inv p) (List.Pairwise.of_cons ha) (List.Pairwise.of_cons hb)]
theorem rN_rise : ∀ i < 8, ∀ j < 8, i < j → ltCps (rN j).cps.toList (rN i).cps.toList = false := by decide +kernel
theorem rN_way : ∀ i < 8, ltCps ("way" : Str).cps.toList (rN i).cps.toList = false := by decide +kernel
theorem rN_inj : ∀ i < 8, ∀ j < 8, rN i = rN j → i = j := by decide +kernel
theorem rN_ne_way : ∀ i < 8, rN i ≠ ("way" : Str) := by decide +kernel
/-- what is read, as the law finds it -/
def foundR (d : Sd) : List Str := (inR (mdOf d)).map rN ++ (if kd d = 3 then [] else [("way" : Str)])
theorem reads_due {d : Sd} {ss : List Str} (h2 : (inR (mdOf d)).length ≤ 2) (h8 : ∀ k ∈ inR (mdOf d), k < 8) (hp : ss.Perm (foldT (foundR d))) (hs : PyProof.Rows.sortedS ss = true) : ss = readsN (mdOf d) := by
  obtain ⟨f1, f2, f3⟩ := foldN_facts h2
  obtain ⟨n1, n2⟩ := foldT_nodup (foundR d)
  have hm8 : ∀ k ∈ foldN (inR (mdOf d)), k < 8 := fun k hk => h8 k ((f3 k).mp hk)
  have er : readsN (mdOf d) = (foldN (inR (mdOf d))).map rN ++ (if kd d = 3 then [] else [("way" : Str)]) := by
    unfold readsN nms
    rw [kd_md]
  refine rise_uniq (hp.trans ?_) (sorted_pair hs) ?_
  · refine (List.perm_ext_iff_of_nodup n1 ?_).mpr fun x => ?_
    · rw [er]
      refine List.nodup_append.mpr ⟨?_, by split <;> simp, ?_⟩
      · refine List.pairwise_map.mpr (List.Pairwise.imp_of_mem ?_ f2)
        intro i j hi hj hij e
        exact Nat.ne_of_lt hij (rN_inj i (hm8 i hi) j (hm8 j hj) e)
      · intro x hx y hy e
        obtain ⟨i, hi, rfl⟩ := List.mem_map.mp hx
        split at hy
        · cases hy
        · rw [List.mem_singleton.mp hy] at e
          exact rN_ne_way i (hm8 i hi) e
    · rw [n2 x, er]
      unfold foundR
      rw [List.mem_append, List.mem_append, List.mem_map, List.mem_map]
      refine or_congr ⟨fun ⟨i, hi, e⟩ => ⟨i, (f3 i).mpr hi, e⟩, fun ⟨i, hi, e⟩ => ⟨i, (f3 i).mp hi, e⟩⟩ Iff.rfl
  · rw [er]
    refine List.pairwise_append.mpr ⟨?_, by split <;> simp, ?_⟩
    · rw [List.pairwise_map]
      refine List.Pairwise.imp_of_mem ?_ f2
      intro i j hi hj hij
      exact rN_rise i (hm8 i hi) j (hm8 j hj) hij
    · intro x hx y hy
      obtain ⟨i, hi, rfl⟩ := List.mem_map.mp hx
      split at hy
      · cases hy
      · rw [List.mem_singleton.mp hy]
        exact rN_way i (hm8 i hi)
end L3

set_option Elab.async false
set_option linter.all false
set_option maxRecDepth 100000
namespace L3
open PySem L2
inductive ItR (H : Hp) : V → Option Nat → Prop
  | str (f : Str) : ItR H (.str f) none
  | int (n : Nat) : ItR H (.int n) none
  | part {v : V} {y : Part} : Pt H v y → (SelC y ∨ SrcC y) → ItR H v (inO y)
theorem ItR.kt {H H' : Hp} (k : TupK H H') {v : V} {z : Option Nat} (h : ItR H v z) : ItR H' v z := by
  cases h with
  | str _ => exact .str _
  | int _ => exact .int _
  | part a b => exact .part (a.kt k) b
def osD : Sd → List (Option Nat)
  | .get _ x => [none, inO x]
  | .ask _ x => [none, inO x]
  | .cell _ x => [none, inO x]
  | .two _ _ x y => [none, none, inO x, inO y]
  | .put x y => [inO x, inO y]
  | .tell x y => [inO x, inO y]
  | .store x y => [inO x, inO y]
theorem sel_in {x : Part} (h : SelC x) : inO x = none := by
  unfold inO
  rcases h with ⟨e, _⟩ | ⟨e, _⟩ <;> (rw [e]; rfl)
theorem TolD.partsR {H : Hp} {v : V} {d : Sd} (h : TolD H v d) : ∃ p xs, v = .ref p ∧ H p = some (.tup (.str (nmD d) :: xs)) ∧ Paired (ItR H) xs (osD d) ∧ 2 ≤ xs.length ∧ xs.length ≤ 4 ∧ (osD d).filterMap id = inR (mdOf d) := by
  cases h with
  | get a b c e => exact ⟨_, _, rfl, a, .cons (.int _) (.cons (.part c (.inl e)) .nil), by simp, by simp, by simp [osD, sel_in e, inR, mdOf]⟩
  | ask a b c e => exact ⟨_, _, rfl, a, .cons (.int _) (.cons (.part c (.inl e)) .nil), by simp, by simp, by simp [osD, sel_in e, inR, mdOf]⟩
  | cell a b c e => exact ⟨_, _, rfl, a, .cons (.int _) (.cons (.part c (.inr e)) .nil), by simp, by simp, by simp [osD, inR, mdOf]⟩
  | two a b f c e g i => exact ⟨_, _, rfl, a, .cons (.int _) (.cons (.str _) (.cons (.part c (.inr e)) (.cons (.part g (.inr i)) .nil))), by simp, by simp, by simp [osD, inR, mdOf]⟩
  | put a c e g i => exact ⟨_, _, rfl, a, .cons (.part c (.inl e)) (.cons (.part g (.inr i)) .nil), by simp, by simp, by simp [osD, sel_in e, inR, mdOf]⟩
  | tell a c e g i => exact ⟨_, _, rfl, a, .cons (.part c (.inl e)) (.cons (.part g (.inr i)) .nil), by simp, by simp, by simp [osD, sel_in e, inR, mdOf]⟩
  | store a c e g i => exact ⟨_, _, rfl, a, .cons (.part c (.inr e)) (.cons (.part g (.inr i)) .nil), by simp, by simp, by simp [osD, inR, mdOf]⟩
theorem cut1' {x : V} {xs : List V} (x2 : 2 ≤ xs.length) (x4 : xs.length ≤ 4) : cutV (x :: xs) (some 1) none = xs := by
  match xs, x2, x4 with
  | [_, _], _, _ => rfl
  | [_, _, _], _, _ => rfl
  | [_, _, _, _], _, _ => rfl
theorem notWhole {x : V} {xs : List V} : ¬ (HT.sIx (x :: xs).length 0 (some 1) = 0 ∧ HT.sIx (x :: xs).length (x :: xs).length none = (x :: xs).length) := by
  intro z
  have := z.1
  first | (simp [HT.sIx] at this; done) | (simp [HT.sIx] at this; omega)
def spLReads : Sp := fun vs H Q _ => ∃ v d, vs = [v] ∧ TolD H v d ∧ (inR (mdOf d)).length ≤ 2 ∧ (∀ k ∈ inR (mdOf d), k < 8) ∧ ∀ p ss H', Same H H' → H p = none → ss.Perm (foldT ((inR (mdOf d)).map rN ++ (if kd d = 3 then [] else [("way" : Str)]))) → PyProof.Rows.sortedS ss = true → H' p = some (.lst (strsV ss)) → Q (.ref p) H'
def spLWrites : Sp := fun vs H Q _ => ∃ v d, vs = [v] ∧ TolD H v d ∧ ∀ p H', Same H H' → H p = none → H' p = some (.lst (strsV (writesN (mdOf d)))) → Q (.ref p) H'
def spIsList : Sp := fun vs H Q _ => ∃ p r l, vs = [.ref p, .ref r] ∧ H p = some (.lst (strsV l)) ∧ H r = some (.lst (strsV l)) ∧ (∀ z ∈ l, okS z = true) ∧ l.length ≤ 10 ∧ Q (.bl true) H
theorem dt_strs {K : PySem.W.Frag} {H : Hp} : ∀ (l : List Str), DtAll K H (strsV l) (l.map PyData.str)
  | [] => .nil
  | x :: l => .cons (.str x) (dt_strs l)
theorem lay_strs : ∀ (l : List Str), (∀ z ∈ l, okS z = true) → PyData.canLayAll0 (l.map PyData.str) = true
  | [], _ => rfl
  | x :: l, h => by
    have h1 := h x List.mem_cons_self
    unfold okS at h1
    simp only [List.map_cons, PyData.canLayAll0, h1, lay_strs l fun z hz => h z (List.mem_cons_of_mem _ hz), Bool.and_self]
theorem eqv_strs : ∀ (l : List Str), PyData.eqvAll (l.map PyData.str) (l.map PyData.str) = true
  | [] => rfl
  | x :: l => by simp [PyData.eqvAll, PyData.eqv, eqv_strs l]
theorem depth_strs : ∀ l : List Str, PyData.depthAll (l.map PyData.str) ≤ 1
  | [] => by simp [PyData.depthAll]
  | x :: r => by
    have := depth_strs r
    simp only [List.map_cons, PyData.depthAll, PyData.depth]
    omega
section
variable {P : Program} {w : World} {K : PySem.W.Frag} {mg : Str → Option Value} {base : Heap}
theorem scIsList : FnScope ["_law_found", "_law_due"] ["_law_found", "_law_due"] (defScope sIsList) := ⟨rfl, rfl, rfl, by decide +kernel, rfl, by decide +kernel, by decide +kernel⟩
theorem ok_isList {f : Addr} {fd : FuncData} (F : Fun K "_law_is_list" "_law_is_list" sIsList f fd) (B : Bl mg) : FnOk P w K mg base CX0 1 f fd ["_law_found", "_law_due"] spIsList := by
  refine F.ok scIsList (fun vs H Q E h => ?_) (fun cdv A outer s H vs Q E hr h => ?_)
  · obtain ⟨p, r, l, rfl, _⟩ := h
    rfl
  · obtain ⟨p, r, l, rfl, hp, hq, hok, hl, q⟩ := h
    refine ⟨_, pss_one (ps_ret (pe_and (pe_callB (isi_ty (T := "list")) (by rfl) B.isinstance boot_isi (pa_cons (pv 0) (pa_cons (pe_ty (by rfl) B.list boot_list') pa_nil))) (pe_one (pe_cmpR (op_eqD hr) (pv 0) (pv 1) (nomark _))))), ?_⟩
    refine ⟨_, rfl, _, _, _, rfl, .lst hp, rfl, _, rfl, iteT ?_⟩
    refine ⟨_, rfl, _, rfl, _, _, .lst (SqL.of hp) (dt_strs l), .lst (SqL.of hq) (dt_strs l), lay_strs l hok, lay_strs l hok, ?_, ?_⟩
    · have := depth_strs l
      simp only [PyData.depth]
      omega
    · have : PyData.eqv (.list (l.map PyData.str)) (.list (l.map PyData.str)) = true := by simp only [PyData.eqv]; exact eqv_strs l
      rw [this]
      exact q
theorem scLWrites : FnScope ["_law_step_here", "_law_found"] ["_law_step_here"] (defScope sLWrites) := ⟨rfl, rfl, rfl, by decide +kernel, rfl, by decide +kernel, by decide +kernel⟩
set_option maxHeartbeats 2000000 in
theorem ok_lWrites {f : Addr} {fd : FuncData} (F : Fun K "_law_writes" "_law_writes" sLWrites f fd) (B : Bl mg) : FnOk P w K mg base CX0 1 f fd ["_law_step_here"] spLWrites := by
  refine F.ok scLWrites (fun vs H Q E h => ?_) (fun cdv A outer s H vs Q E hr h => ?_)
  · obtain ⟨v, d, rfl, _⟩ := h
    rfl
  · obtain ⟨v, d, rfl, ht, q⟩ := h
    refine ⟨_, pss_cons (ps_set (i := 1) scLWrites.nd rfl (Or.inl rfl) (pe_lst pa_nil))
      (pss_cons (ps_if (pt_cmpR op_in_seq (pe_ix ix_tup (pv 0) pe_int (fun _ _ => rfl)) (pe_lst (pa_cons pe_str (pa_cons pe_str (pa_cons pe_str (pa_cons pe_str pa_nil))))) rfl) (pss_one (ps_expr (pe_bm PySem.F.plainAttrs_list PySem.F.slot_list_append PySem.F.type_list_append mt_append (pv 1) (pa_cons (pe_op op_add_str pe_str (pe_callTy call_str_int (by rfl) B.str boot_str' (pa_cons (pe_ix ix_tup (pv 0) pe_int (fun _ _ => rfl)) pa_nil))) pa_nil)))) pss_nil)
      (pss_cons (ps_if (pt_cmpR op_ne (pe_ix ix_tup (pv 0) pe_int (fun _ _ => rfl)) pe_str (nomark _)) (pss_one (ps_expr (pe_bm PySem.F.plainAttrs_list PySem.F.slot_list_append PySem.F.type_list_append mt_append (pv 1) (pa_cons pe_str pa_nil)))) pss_nil)
      (pss_one (ps_ret (pv 1))))), ?_⟩
    refine ⟨(by show 0 ≤ sizeLine; decide), fun lf nf => ?_⟩
    have s1 := same_new (o := .lst []) nf
    have e1 : (upd H lf (.lst [])) lf = some (.lst []) := upd_same
    have sz : (1000 : Nat) ≤ sizeLine := by decide
    cases ht with
    | @get p n s x hp hn hs hc =>
      refine ⟨_, rfl, p, _, _, _, rfl, rfl, SqT.of (s1 _ _ hp), rfl, (by show 4 ≤ sizeLine; decide), fun lq nq => ?_⟩
      have s2 := same_new (o := .lst [.str "get", .str "ask", .str "cell", .str "two"]) nq
      have s12 := s1.trans s2
      have e2 := s2 _ _ e1
      refine ⟨lq, _, rfl, .inl (SqL.of upd_same), rfl, by decide +kernel, _, rfl, iteA (by decide +kernel) ?_⟩
      refine ⟨_, rfl, .inl ⟨rfl, _, SqL.of e2⟩, _, rfl, p, _, _, _, rfl, rfl, SqT.of (s12 _ _ hp), rfl, _, rfl, small8 _ hn, _, _, rfl, rfl, (by have h9 := rN_len n hn; unfold rN at h9; rw [len_app] at h9; exact Nat.le_trans h9 (by decide)), ?_⟩
      refine ⟨lf, _, _, rfl, rfl, e2, by show 0 < sizeLine; decide, ?_⟩
      have s3 : Same H (upd (upd (upd H lf (.lst [])) lq (.lst [.str "get", .str "ask", .str "cell", .str "two"])) lf (.lst ([] ++ [.str (rN n)]))) := same_mut nf s12
      have e3 : (upd (upd (upd H lf (.lst [])) lq (.lst [.str "get", .str "ask", .str "cell", .str "two"])) lf (.lst ([] ++ [.str (rN n)]))) lf = some (.lst ([] ++ [.str (rN n)])) := upd_same
      refine ⟨_, rfl, p, _, _, _, rfl, rfl, SqT.of (s3 _ _ hp), rfl, rfl, _, rfl, iteA (by decide +kernel) ?_⟩
      refine ⟨_, rfl, .inl ⟨rfl, _, SqL.of e3⟩, lf, _, _, rfl, rfl, e3, by show 1 < sizeLine; decide, ?_⟩
      exact ⟨_, rfl, q lf _ (same_mut nf s3) nf upd_same⟩
    | @ask p n s x hp hn hs hc =>
      refine ⟨_, rfl, p, _, _, _, rfl, rfl, SqT.of (s1 _ _ hp), rfl, (by show 4 ≤ sizeLine; decide), fun lq nq => ?_⟩
      have s2 := same_new (o := .lst [.str "get", .str "ask", .str "cell", .str "two"]) nq
      have s12 := s1.trans s2
      have e2 := s2 _ _ e1
      refine ⟨lq, _, rfl, .inl (SqL.of upd_same), rfl, by decide +kernel, _, rfl, iteA (by decide +kernel) ?_⟩
      refine ⟨_, rfl, .inl ⟨rfl, _, SqL.of e2⟩, _, rfl, p, _, _, _, rfl, rfl, SqT.of (s12 _ _ hp), rfl, _, rfl, small8 _ hn, _, _, rfl, rfl, (by have h9 := rN_len n hn; unfold rN at h9; rw [len_app] at h9; exact Nat.le_trans h9 (by decide)), ?_⟩
      refine ⟨lf, _, _, rfl, rfl, e2, by show 0 < sizeLine; decide, ?_⟩
      have s3 : Same H (upd (upd (upd H lf (.lst [])) lq (.lst [.str "get", .str "ask", .str "cell", .str "two"])) lf (.lst ([] ++ [.str (rN n)]))) := same_mut nf s12
      have e3 : (upd (upd (upd H lf (.lst [])) lq (.lst [.str "get", .str "ask", .str "cell", .str "two"])) lf (.lst ([] ++ [.str (rN n)]))) lf = some (.lst ([] ++ [.str (rN n)])) := upd_same
      refine ⟨_, rfl, p, _, _, _, rfl, rfl, SqT.of (s3 _ _ hp), rfl, rfl, _, rfl, iteA (by decide +kernel) ?_⟩
      refine ⟨_, rfl, .inl ⟨rfl, _, SqL.of e3⟩, lf, _, _, rfl, rfl, e3, by show 1 < sizeLine; decide, ?_⟩
      exact ⟨_, rfl, q lf _ (same_mut nf s3) nf upd_same⟩
    | @cell p n s x hp hn hs hc =>
      refine ⟨_, rfl, p, _, _, _, rfl, rfl, SqT.of (s1 _ _ hp), rfl, (by show 4 ≤ sizeLine; decide), fun lq nq => ?_⟩
      have s2 := same_new (o := .lst [.str "get", .str "ask", .str "cell", .str "two"]) nq
      have s12 := s1.trans s2
      have e2 := s2 _ _ e1
      refine ⟨lq, _, rfl, .inl (SqL.of upd_same), rfl, by decide +kernel, _, rfl, iteA (by decide +kernel) ?_⟩
      refine ⟨_, rfl, .inl ⟨rfl, _, SqL.of e2⟩, _, rfl, p, _, _, _, rfl, rfl, SqT.of (s12 _ _ hp), rfl, _, rfl, small8 _ hn, _, _, rfl, rfl, (by have h9 := rN_len n hn; unfold rN at h9; rw [len_app] at h9; exact Nat.le_trans h9 (by decide)), ?_⟩
      refine ⟨lf, _, _, rfl, rfl, e2, by show 0 < sizeLine; decide, ?_⟩
      have s3 : Same H (upd (upd (upd H lf (.lst [])) lq (.lst [.str "get", .str "ask", .str "cell", .str "two"])) lf (.lst ([] ++ [.str (rN n)]))) := same_mut nf s12
      have e3 : (upd (upd (upd H lf (.lst [])) lq (.lst [.str "get", .str "ask", .str "cell", .str "two"])) lf (.lst ([] ++ [.str (rN n)]))) lf = some (.lst ([] ++ [.str (rN n)])) := upd_same
      refine ⟨_, rfl, p, _, _, _, rfl, rfl, SqT.of (s3 _ _ hp), rfl, rfl, _, rfl, iteA (by decide +kernel) ?_⟩
      refine ⟨_, rfl, .inl ⟨rfl, _, SqL.of e3⟩, lf, _, _, rfl, rfl, e3, by show 1 < sizeLine; decide, ?_⟩
      exact ⟨_, rfl, q lf _ (same_mut nf s3) nf upd_same⟩
    | @two p n f s s' x y hp hn hf hs hc hs2 hc2 =>
      refine ⟨_, rfl, p, _, _, _, rfl, rfl, SqT.of (s1 _ _ hp), rfl, (by show 4 ≤ sizeLine; decide), fun lq nq => ?_⟩
      have s2 := same_new (o := .lst [.str "get", .str "ask", .str "cell", .str "two"]) nq
      have s12 := s1.trans s2
      have e2 := s2 _ _ e1
      refine ⟨lq, _, rfl, .inl (SqL.of upd_same), rfl, by decide +kernel, _, rfl, iteA (by decide +kernel) ?_⟩
      refine ⟨_, rfl, .inl ⟨rfl, _, SqL.of e2⟩, _, rfl, p, _, _, _, rfl, rfl, SqT.of (s12 _ _ hp), rfl, _, rfl, small8 _ hn, _, _, rfl, rfl, (by have h9 := rN_len n hn; unfold rN at h9; rw [len_app] at h9; exact Nat.le_trans h9 (by decide)), ?_⟩
      refine ⟨lf, _, _, rfl, rfl, e2, by show 0 < sizeLine; decide, ?_⟩
      have s3 : Same H (upd (upd (upd H lf (.lst [])) lq (.lst [.str "get", .str "ask", .str "cell", .str "two"])) lf (.lst ([] ++ [.str (rN n)]))) := same_mut nf s12
      have e3 : (upd (upd (upd H lf (.lst [])) lq (.lst [.str "get", .str "ask", .str "cell", .str "two"])) lf (.lst ([] ++ [.str (rN n)]))) lf = some (.lst ([] ++ [.str (rN n)])) := upd_same
      refine ⟨_, rfl, p, _, _, _, rfl, rfl, SqT.of (s3 _ _ hp), rfl, rfl, _, rfl, iteB (by decide +kernel) ?_⟩
      exact ⟨_, rfl, q lf _ s3 nf e3⟩
    | @put p s s' x y hp hs hc hs2 hc2 =>
      refine ⟨_, rfl, p, _, _, _, rfl, rfl, SqT.of (s1 _ _ hp), rfl, (by show 4 ≤ sizeLine; decide), fun lq nq => ?_⟩
      have s2 := same_new (o := .lst [.str "get", .str "ask", .str "cell", .str "two"]) nq
      have s12 := s1.trans s2
      have e2 := s2 _ _ e1
      refine ⟨lq, _, rfl, .inl (SqL.of upd_same), rfl, by decide +kernel, _, rfl, iteB (by decide +kernel) ?_⟩
      refine ⟨_, rfl, p, _, _, _, rfl, rfl, SqT.of (s12 _ _ hp), rfl, rfl, _, rfl, iteA (by decide +kernel) ?_⟩
      refine ⟨_, rfl, .inl ⟨rfl, _, SqL.of e2⟩, lf, _, _, rfl, rfl, e2, by show 0 < sizeLine; decide, ?_⟩
      exact ⟨_, rfl, q lf _ (same_mut nf s12) nf upd_same⟩
    | @tell p s s' x y hp hs hc hs2 hc2 =>
      refine ⟨_, rfl, p, _, _, _, rfl, rfl, SqT.of (s1 _ _ hp), rfl, (by show 4 ≤ sizeLine; decide), fun lq nq => ?_⟩
      have s2 := same_new (o := .lst [.str "get", .str "ask", .str "cell", .str "two"]) nq
      have s12 := s1.trans s2
      have e2 := s2 _ _ e1
      refine ⟨lq, _, rfl, .inl (SqL.of upd_same), rfl, by decide +kernel, _, rfl, iteB (by decide +kernel) ?_⟩
      refine ⟨_, rfl, p, _, _, _, rfl, rfl, SqT.of (s12 _ _ hp), rfl, rfl, _, rfl, iteA (by decide +kernel) ?_⟩
      refine ⟨_, rfl, .inl ⟨rfl, _, SqL.of e2⟩, lf, _, _, rfl, rfl, e2, by show 0 < sizeLine; decide, ?_⟩
      exact ⟨_, rfl, q lf _ (same_mut nf s12) nf upd_same⟩
    | @store p s s' x y hp hs hc hs2 hc2 =>
      refine ⟨_, rfl, p, _, _, _, rfl, rfl, SqT.of (s1 _ _ hp), rfl, (by show 4 ≤ sizeLine; decide), fun lq nq => ?_⟩
      have s2 := same_new (o := .lst [.str "get", .str "ask", .str "cell", .str "two"]) nq
      have s12 := s1.trans s2
      have e2 := s2 _ _ e1
      refine ⟨lq, _, rfl, .inl (SqL.of upd_same), rfl, by decide +kernel, _, rfl, iteB (by decide +kernel) ?_⟩
      refine ⟨_, rfl, p, _, _, _, rfl, rfl, SqT.of (s12 _ _ hp), rfl, rfl, _, rfl, iteA (by decide +kernel) ?_⟩
      refine ⟨_, rfl, .inl ⟨rfl, _, SqL.of e2⟩, lf, _, _, rfl, rfl, e2, by show 0 < sizeLine; decide, ?_⟩
      exact ⟨_, rfl, q lf _ (same_mut nf s12) nf upd_same⟩
def spLFields (C : Nat → Addr) : Sp := fun vs H Q _ => ∃ v pu d nm, vs = [v, .str nm] ∧ nmD d = nm ∧ ObD C H v (.ref pu) d ∧ ∀ p xs H', Same H H' → H p = none → H pu = some (.tup (.str (nmD d) :: xs)) → H' p = some (.tup xs) → Q (.ref p) H'
theorem scLFields : FnScope ["_law_made", "_law_word"] ["_law_made", "_law_word"] (defScope sLFields) := ⟨rfl, rfl, rfl, by decide +kernel, rfl, by decide +kernel, by decide +kernel⟩
set_option maxHeartbeats 2000000 in
theorem ok_lFields {C fi : Nat → Addr} {f : Addr} {fd : FuncData} (F : Fun K "_law_fields" "_law_fields" sLFields f fd) (T : Ct K mg C fi) : FnOk P w K mg base CX0 1 f fd ["_law_made", "_law_word"] (spLFields C) := by
  refine F.ok scLFields (fun vs H Q E h => ?_) (fun cdv A outer s H vs Q E hr h => ?_)
  · obtain ⟨v, pu, d, nm, rfl, _⟩ := h
    rfl
  · obtain ⟨v, pu, d, nm, rfl, hnm, hv, q⟩ := h
    refine ⟨_, pss_cons (ps_if (pt_cmpR op_in_seq (pv 1) (pe_lst (pa_cons pe_str (pa_cons pe_str pa_nil))) rfl) (pss_one (ps_ret (pe_tup (pa_cons (pe_fld (pv 0) rfl) (pa_cons (pe_fld (pv 0) rfl) pa_nil))))) pss_nil)
      (pss_cons (ps_if (pt_cmpR op_eq (pv 1) pe_str (nomark _)) (pss_one (ps_ret (pe_tup (pa_cons (pe_fld (pv 0) rfl) (pa_cons (pe_fld (pv 0) rfl) pa_nil))))) pss_nil)
      (pss_cons (ps_if (pt_cmpR op_eq (pv 1) pe_str (nomark _)) (pss_one (ps_ret (pe_tup (pa_cons (pe_fld (pv 0) rfl) (pa_cons (pe_fld (pv 0) rfl) (pa_cons (pe_fld (pv 0) rfl) (pa_cons (pe_fld (pv 0) rfl) pa_nil))))))) pss_nil)
      (pss_cons (ps_if (pt_cmpR op_in_seq (pv 1) (pe_lst (pa_cons pe_str (pa_cons pe_str pa_nil))) rfl) (pss_one (ps_ret (pe_tup (pa_cons (pe_fld (pv 0) rfl) (pa_cons (pe_fld (pv 0) rfl) pa_nil))))) pss_nil)
      (pss_one (ps_ret (pe_tup (pa_cons (pe_fld (pv 0) rfl) (pa_cons (pe_fld (pv 0) rfl) pa_nil)))))))), ?_⟩
    cases hv with
    | @get a dx p n s x ho hp hn hs hc =>
      have hnm2 : nm = "get" := hnm.symm
      subst hnm2
      refine ⟨_, rfl, (by show 2 ≤ sizeLine; decide), fun l1 n1 => ?_⟩
      have s1 := same_new (o := .lst [.str "get", .str "ask"]) n1
      refine ⟨l1, _, rfl, .inl (SqL.of upd_same), rfl, by decide +kernel, _, rfl, iteA (by decide +kernel) ?_⟩
      have HO := s1 _ _ ho
      exact ⟨_, rfl, a, C 0, dx, _, _, rfl, HO, T.cls 0 (by decide), T.na 0 (by decide) "to" (by decide +kernel), rfl, _, rfl, a, C 0, dx, _, _, rfl, HO, T.cls 0 (by decide), T.na 0 (by decide) "sel" (by decide +kernel), rfl, (by show 2 ≤ sizeLine; decide), fun t nt => q t _ _ (s1.trans (same_new nt)) (s1.free nt) hp upd_same⟩
    | @ask a dx p n s x ho hp hn hs hc =>
      have hnm2 : nm = "ask" := hnm.symm
      subst hnm2
      refine ⟨_, rfl, (by show 2 ≤ sizeLine; decide), fun l1 n1 => ?_⟩
      have s1 := same_new (o := .lst [.str "get", .str "ask"]) n1
      refine ⟨l1, _, rfl, .inl (SqL.of upd_same), rfl, by decide +kernel, _, rfl, iteA (by decide +kernel) ?_⟩
      have HO := s1 _ _ ho
      exact ⟨_, rfl, a, C 1, dx, _, _, rfl, HO, T.cls 1 (by decide), T.na 1 (by decide) "to" (by decide +kernel), rfl, _, rfl, a, C 1, dx, _, _, rfl, HO, T.cls 1 (by decide), T.na 1 (by decide) "sel" (by decide +kernel), rfl, (by show 2 ≤ sizeLine; decide), fun t nt => q t _ _ (s1.trans (same_new nt)) (s1.free nt) hp upd_same⟩
    | @cell a dx p n s x ho hp hn hs hc =>
      have hnm2 : nm = "cell" := hnm.symm
      subst hnm2
      refine ⟨_, rfl, (by show 2 ≤ sizeLine; decide), fun l1 n1 => ?_⟩
      have s1 := same_new (o := .lst [.str "get", .str "ask"]) n1
      refine ⟨l1, _, rfl, .inl (SqL.of upd_same), rfl, by decide +kernel, _, rfl, iteB (by decide +kernel) ?_⟩
      refine ⟨_, rfl, rfl, _, rfl, iteA (by decide +kernel) ?_⟩
      have HO := s1 _ _ ho
      exact ⟨_, rfl, a, C 2, dx, _, _, rfl, HO, T.cls 2 (by decide), T.na 2 (by decide) "to" (by decide +kernel), rfl, _, rfl, a, C 2, dx, _, _, rfl, HO, T.cls 2 (by decide), T.na 2 (by decide) "source" (by decide +kernel), rfl, (by show 2 ≤ sizeLine; decide), fun t nt => q t _ _ (s1.trans (same_new nt)) (s1.free nt) hp upd_same⟩
    | @two a dx p n f s s' x y ho hp hn hf hs hc hs2 hc2 =>
      have hnm2 : nm = "two" := hnm.symm
      subst hnm2
      refine ⟨_, rfl, (by show 2 ≤ sizeLine; decide), fun l1 n1 => ?_⟩
      have s1 := same_new (o := .lst [.str "get", .str "ask"]) n1
      refine ⟨l1, _, rfl, .inl (SqL.of upd_same), rfl, by decide +kernel, _, rfl, iteB (by decide +kernel) ?_⟩
      refine ⟨_, rfl, rfl, _, rfl, iteB (by decide +kernel) ?_⟩
      refine ⟨_, rfl, rfl, _, rfl, iteA (by decide +kernel) ?_⟩
      have HO := s1 _ _ ho
      exact ⟨_, rfl, a, C 3, dx, _, _, rfl, HO, T.cls 3 (by decide), T.na 3 (by decide) "to" (by decide +kernel), rfl, _, rfl, a, C 3, dx, _, _, rfl, HO, T.cls 3 (by decide), T.na 3 (by decide) "op" (by decide +kernel), rfl, _, rfl, a, C 3, dx, _, _, rfl, HO, T.cls 3 (by decide), T.na 3 (by decide) "one" (by decide +kernel), rfl, _, rfl, a, C 3, dx, _, _, rfl, HO, T.cls 3 (by decide), T.na 3 (by decide) "other" (by decide +kernel), rfl, (by show 4 ≤ sizeLine; decide), fun t nt => q t _ _ (s1.trans (same_new nt)) (s1.free nt) hp upd_same⟩
    | @put a dx p s s' x y ho hp hs hc hs2 hc2 =>
      have hnm2 : nm = "put" := hnm.symm
      subst hnm2
      refine ⟨_, rfl, (by show 2 ≤ sizeLine; decide), fun l1 n1 => ?_⟩
      have s1 := same_new (o := .lst [.str "get", .str "ask"]) n1
      refine ⟨l1, _, rfl, .inl (SqL.of upd_same), rfl, by decide +kernel, _, rfl, iteB (by decide +kernel) ?_⟩
      refine ⟨_, rfl, rfl, _, rfl, iteB (by decide +kernel) ?_⟩
      refine ⟨_, rfl, rfl, _, rfl, iteB (by decide +kernel) ?_⟩
      refine ⟨_, rfl, (by show 2 ≤ sizeLine; decide), fun l2 n2 => ?_⟩
      have s2 := s1.trans (same_new (o := .lst [.str "put", .str "tell"]) n2)
      refine ⟨l2, _, rfl, .inl (SqL.of upd_same), rfl, by decide +kernel, _, rfl, iteA (by decide +kernel) ?_⟩
      have HO := s2 _ _ ho
      exact ⟨_, rfl, a, C 4, dx, _, _, rfl, HO, T.cls 4 (by decide), T.na 4 (by decide) "sel" (by decide +kernel), rfl, _, rfl, a, C 4, dx, _, _, rfl, HO, T.cls 4 (by decide), T.na 4 (by decide) "source" (by decide +kernel), rfl, (by show 2 ≤ sizeLine; decide), fun t nt => q t _ _ (s2.trans (same_new nt)) (s2.free nt) hp upd_same⟩
    | @tell a dx p s s' x y ho hp hs hc hs2 hc2 =>
      have hnm2 : nm = "tell" := hnm.symm
      subst hnm2
      refine ⟨_, rfl, (by show 2 ≤ sizeLine; decide), fun l1 n1 => ?_⟩
      have s1 := same_new (o := .lst [.str "get", .str "ask"]) n1
      refine ⟨l1, _, rfl, .inl (SqL.of upd_same), rfl, by decide +kernel, _, rfl, iteB (by decide +kernel) ?_⟩
      refine ⟨_, rfl, rfl, _, rfl, iteB (by decide +kernel) ?_⟩
      refine ⟨_, rfl, rfl, _, rfl, iteB (by decide +kernel) ?_⟩
      refine ⟨_, rfl, (by show 2 ≤ sizeLine; decide), fun l2 n2 => ?_⟩
      have s2 := s1.trans (same_new (o := .lst [.str "put", .str "tell"]) n2)
      refine ⟨l2, _, rfl, .inl (SqL.of upd_same), rfl, by decide +kernel, _, rfl, iteA (by decide +kernel) ?_⟩
      have HO := s2 _ _ ho
      exact ⟨_, rfl, a, C 5, dx, _, _, rfl, HO, T.cls 5 (by decide), T.na 5 (by decide) "sel" (by decide +kernel), rfl, _, rfl, a, C 5, dx, _, _, rfl, HO, T.cls 5 (by decide), T.na 5 (by decide) "source" (by decide +kernel), rfl, (by show 2 ≤ sizeLine; decide), fun t nt => q t _ _ (s2.trans (same_new nt)) (s2.free nt) hp upd_same⟩
    | @store a dx p s s' x y ho hp hs hc hs2 hc2 =>
      have hnm2 : nm = "store" := hnm.symm
      subst hnm2
      refine ⟨_, rfl, (by show 2 ≤ sizeLine; decide), fun l1 n1 => ?_⟩
      have s1 := same_new (o := .lst [.str "get", .str "ask"]) n1
      refine ⟨l1, _, rfl, .inl (SqL.of upd_same), rfl, by decide +kernel, _, rfl, iteB (by decide +kernel) ?_⟩
      refine ⟨_, rfl, rfl, _, rfl, iteB (by decide +kernel) ?_⟩
      refine ⟨_, rfl, rfl, _, rfl, iteB (by decide +kernel) ?_⟩
      refine ⟨_, rfl, (by show 2 ≤ sizeLine; decide), fun l2 n2 => ?_⟩
      have s2 := s1.trans (same_new (o := .lst [.str "put", .str "tell"]) n2)
      refine ⟨l2, _, rfl, .inl (SqL.of upd_same), rfl, by decide +kernel, _, rfl, iteB (by decide +kernel) ?_⟩
      have HO := s2 _ _ ho
      exact ⟨_, rfl, a, C 6, dx, _, _, rfl, HO, T.cls 6 (by decide), T.na 6 (by decide) "at" (by decide +kernel), rfl, _, rfl, a, C 6, dx, _, _, rfl, HO, T.cls 6 (by decide), T.na 6 (by decide) "source" (by decide +kernel), rfl, (by show 2 ≤ sizeLine; decide), fun t nt => q t _ _ (s2.trans (same_new nt)) (s2.free nt) hp upd_same⟩
end
end L3

set_option Elab.async false
set_option linter.all false
set_option maxRecDepth 100000
namespace L3
open PySem L2
/-- what isinstance asks of the classes -/
structure Ct2 (K : PySem.W.Frag) (C : Nat → Addr) (cS : Addr) : Prop where
  t1 : ∀ k, k < 7 → PySem.W.findIn K (.ref (C k)) "__class__" = some (some (.builtin "object.__class__"))
  t2 : PySem.W.specialIn K (.builtin "object.__class__") "__get__" = some (some (.builtin "getset_descriptor.__get__"))
  t3 : PySem.W.takesIn K (.builtin "object.__class__") = some true
  t4 : ∀ k, k < 7 → PySem.W.mroIn K (C k) (.type "object") = some true
  kit : ∀ k, k < 7 → ∀ j, j < 7 → PySem.W.kitOne K (.ref (C k)) (.ref (C j)) = some (decide (j = k))
  kitS : ∀ k, k < 7 → PySem.W.kitOne K (.ref (C k)) (.ref cS) = some true
theorem kd7 (d : Sd) : kd d < 7 := by cases d <;> (simp only [kd]; omega)
theorem ObD.ins {C : Nat → Addr} {H : Hp} {v u : V} {d : Sd} (h : ObD C H v u d) : ∃ a dx fs, v = .ref a ∧ H a = some (.ins (C (kd d)) dx fs) := by
  cases h with
  | get o => exact ⟨_, _, _, rfl, o⟩
  | ask o => exact ⟨_, _, _, rfl, o⟩
  | cell o => exact ⟨_, _, _, rfl, o⟩
  | two o => exact ⟨_, _, _, rfl, o⟩
  | put o => exact ⟨_, _, _, rfl, o⟩
  | tell o => exact ⟨_, _, _, rfl, o⟩
  | store o => exact ⟨_, _, _, rfl, o⟩
theorem nm_two (d : Sd) (h : nmD d = "two") : kd d = 3 := by
  cases d with
  | get n x => exact absurd (show ("get" : Str) = "two" from h) (by decide +kernel)
  | ask n x => exact absurd (show ("ask" : Str) = "two" from h) (by decide +kernel)
  | cell n x => exact absurd (show ("cell" : Str) = "two" from h) (by decide +kernel)
  | two n f x y => rfl
  | put x y => exact absurd (show ("put" : Str) = "two" from h) (by decide +kernel)
  | tell x y => exact absurd (show ("tell" : Str) = "two" from h) (by decide +kernel)
  | store x y => exact absurd (show ("store" : Str) = "two" from h) (by decide +kernel)
def bsV (d : Sd) : List V := [.bl (decide (0 = kd d)), .bl (decide (1 = kd d)), .bl (decide (2 = kd d)), .bl (decide (3 = kd d)), .bl (decide (4 = kd d)), .bl (decide (5 = kd d)), .bl (decide (6 = kd d))]
def spSorts (C : Nat → Addr) : Sp := fun vs H Q _ => ∃ v u d, vs = [v] ∧ ObD C H v u d ∧ ∀ p H', Same H H' → H p = none → H' p = some (.lst (bsV d)) → Q (.ref p) H'
section
variable {P : Program} {w : World} {K : PySem.W.Frag} {mg : Str → Option Value} {base : Heap} {C fi : Nat → Addr} {cS : Addr}
theorem scSorts : FnScope ["_law_made", "_law_sorts_here"] ["_law_made"] (defScope sLSorts) := ⟨rfl, rfl, rfl, by decide +kernel, rfl, by decide +kernel, by decide +kernel⟩
set_option maxHeartbeats 2000000 in
theorem ok_lSorts {f : Addr} {fd : FuncData} (F : Fun K "_law_sorts" "_law_sorts" sLSorts f fd) (B : Bl mg) (T : Ct K mg C fi) (T2 : Ct2 K C cS) : FnOk P w K mg base CX0 1 f fd ["_law_made"] (spSorts C) := by
  refine F.ok scSorts (fun vs H Q E h => ?_) (fun cdv A outer s H vs Q E hr h => ?_)
  · obtain ⟨v, u, d, rfl, _⟩ := h
    rfl
  · obtain ⟨v, u, d, rfl, hv, q⟩ := h
    obtain ⟨a, dx, fs, rfl, ho⟩ := hv.ins
    refine ⟨_, pss_cons (ps_set (i := 1) scSorts.nd rfl (Or.inl rfl) (pe_lst (pa_cons (pe_callB (isi_own (c := .none) (b := true) (x := "")) (by rfl) B.isinstance boot_isi (pa_cons (pv 0) (pa_cons (pe_glob (v := .ref (C 0)) rfl (T.mg 0 (by decide)) rfl) pa_nil)))
        (pa_cons (pe_callB (isi_own (c := .none) (b := true) (x := "")) (by rfl) B.isinstance boot_isi (pa_cons (pv 0) (pa_cons (pe_glob (v := .ref (C 1)) rfl (T.mg 1 (by decide)) rfl) pa_nil)))
        (pa_cons (pe_callB (isi_own (c := .none) (b := true) (x := "")) (by rfl) B.isinstance boot_isi (pa_cons (pv 0) (pa_cons (pe_glob (v := .ref (C 2)) rfl (T.mg 2 (by decide)) rfl) pa_nil)))
        (pa_cons (pe_callB (isi_own (c := .none) (b := true) (x := "")) (by rfl) B.isinstance boot_isi (pa_cons (pv 0) (pa_cons (pe_glob (v := .ref (C 3)) rfl (T.mg 3 (by decide)) rfl) pa_nil))) pa_nil))))))
      (pss_one (ps_ret (pe_op op_cat (pv 1) (pe_lst (pa_cons (pe_callB (isi_own (c := .none) (b := true) (x := "")) (by rfl) B.isinstance boot_isi (pa_cons (pv 0) (pa_cons (pe_glob (v := .ref (C 4)) rfl (T.mg 4 (by decide)) rfl) pa_nil)))
        (pa_cons (pe_callB (isi_own (c := .none) (b := true) (x := "")) (by rfl) B.isinstance boot_isi (pa_cons (pv 0) (pa_cons (pe_glob (v := .ref (C 5)) rfl (T.mg 5 (by decide)) rfl) pa_nil)))
        (pa_cons (pe_callB (isi_own (c := .none) (b := true) (x := "")) (by rfl) B.isinstance boot_isi (pa_cons (pv 0) (pa_cons (pe_glob (v := .ref (C 6)) rfl (T.mg 6 (by decide)) rfl) pa_nil))) pa_nil))))))), ?_⟩
    have ty : ∀ {H' : Hp}, Same H H' → TyOf K H' (.ref a) (.ref (C (kd d))) := fun sm => .ins (sm _ _ ho) (T.cls _ (kd7 d)) (T2.t1 _ (kd7 d)) T2.t2 T2.t3 (T2.t4 _ (kd7 d))
    have kt : ∀ j, j < 7 → PySem.W.kitOne K (.ref (C (kd d))) (.ref (C j)) = some (decide (j = kd d)) := T2.kit _ (kd7 d)
    have s0 := Same.refl H
    refine ⟨_, rfl, _, _, _, _, _, rfl, ty s0, fun u r => r, kt 0 (by decide), _, rfl, _, _, _, _, _, rfl, ty s0, fun u r => r, kt 1 (by decide), _, rfl, _, _, _, _, _, rfl, ty s0, fun u r => r, kt 2 (by decide), _, rfl, _, _, _, _, _, rfl, ty s0, fun u r => r, kt 3 (by decide), (by show 4 ≤ sizeLine; decide), fun l1 n1 => ?_⟩
    have s1 := same_new (o := .lst [.bl (decide (0 = kd d)), .bl (decide (1 = kd d)), .bl (decide (2 = kd d)), .bl (decide (3 = kd d))]) n1
    have e1 : (upd H l1 (.lst [.bl (decide (0 = kd d)), .bl (decide (1 = kd d)), .bl (decide (2 = kd d)), .bl (decide (3 = kd d))])) l1 = some (.lst [.bl (decide (0 = kd d)), .bl (decide (1 = kd d)), .bl (decide (2 = kd d)), .bl (decide (3 = kd d))]) := upd_same
    refine ⟨_, rfl, _, rfl, _, _, _, _, _, rfl, ty s1, fun u r => r, kt 4 (by decide), _, rfl, _, _, _, _, _, rfl, ty s1, fun u r => r, kt 5 (by decide), _, rfl, _, _, _, _, _, rfl, ty s1, fun u r => r, kt 6 (by decide), (by show 3 ≤ sizeLine; decide), fun l2 n2 => ?_⟩
    have s2 := same_new (o := .lst [.bl (decide (4 = kd d)), .bl (decide (5 = kd d)), .bl (decide (6 = kd d))]) n2
    exact ⟨l1, l2, _, _, rfl, rfl, s2 _ _ e1, upd_same, (by show 7 ≤ sizeLine; decide), fun r nr => q r _ ((s1.trans s2).trans (same_new nr)) ((s1.trans s2).free nr) upd_same⟩
theorem scLReads : FnScope ["_law_step_here", "_law_found", "_law_part"] ["_law_step_here"] (defScope sLReads) := ⟨rfl, rfl, rfl, by decide +kernel, rfl, by decide +kernel, by decide +kernel⟩
set_option maxHeartbeats 4000000 in
theorem ok_lReads {f : Addr} {fd : FuncData} (F : Fun K "_law_reads" "_law_reads" sLReads f fd) (B : Bl mg) (B2 : Bl2 mg) : FnOk P w K mg base CX0 1 f fd ["_law_step_here"] spLReads := by
  refine F.ok scLReads (fun vs H Q E h => ?_) (fun cdv A outer s H vs Q E hr h => ?_)
  · obtain ⟨v, d, rfl, _⟩ := h
    rfl
  · obtain ⟨v, d, rfl, ht, hi2, hi8, q⟩ := h
    refine ⟨_, pss_cons (ps_set (i := 1) scLReads.nd rfl (Or.inl rfl) (pe_lst pa_nil))
      (pss_cons (ps_for PassesOwn.never rfl (pi_tup (pe_slice sl_tup (pv 0) (po_some pe_int) po_none)) (pg_name (i := 2) scLReads.nd rfl (Or.inl rfl))
        (pss_one (ps_if (PW.pt (pw_and (pt_val (pe_callB (isi_ty (T := "tuple")) (by rfl) B.isinstance boot_isi (pa_cons (pv 2) (pa_cons (pe_ty (by rfl) B.tuple boot_tuple') pa_nil)))) (pw_and1 (pt_cmpR op_eq (pe_ix ix_tup (pv 2) pe_int (fun _ _ => rfl)) pe_str (nomark _)))))
          (pss_one (ps_expr (pe_bm PySem.F.plainAttrs_list PySem.F.slot_list_append PySem.F.type_list_append mt_append (pv 1) (pa_cons (pe_op op_add_str pe_str (pe_callTy call_str_int (by rfl) B.str boot_str' (pa_cons (pe_ix ix_tup (pv 2) pe_int (fun _ _ => rfl)) pa_nil))) pa_nil)))) pss_nil)))
      (pss_cons (ps_if (pt_cmpR op_ne (pe_ix ix_tup (pv 0) pe_int (fun _ _ => rfl)) pe_str (nomark _)) (pss_one (ps_expr (pe_bm PySem.F.plainAttrs_list PySem.F.slot_list_append PySem.F.type_list_append mt_append (pv 1) (pa_cons pe_str pa_nil)))) pss_nil)
      (pss_one (ps_ret (pe_callB (call_sortsetT rfl) (by rfl) B2.sorted boot_sorted' (pa_cons (pe_callTy (call_setT rfl) (by rfl) B2.set boot_set' (pa_cons (pv 1) pa_nil)) pa_nil)))))), ?_⟩
    obtain ⟨p, xs, rfl, hp, hpr, x2, x4, hos⟩ := ht.partsR
    have lx := hpr.length
    have sz : (1000 : Nat) ≤ sizeLine := by decide
    refine ⟨(by show 0 ≤ sizeLine; decide), fun lw nw => ?_⟩
    have s1 := same_new (o := .lst []) nw
    have e1 : (upd H lw (.lst [])) lw = some (.lst (strsV [])) := upd_same
    generalize upd H lw (.lst ([] : List V)) = H1 at *
    refine ⟨_, rfl, _, rfl, p, _, rfl, SqT.of (s1 _ _ hp), notWhole, fun tt nt => ?_⟩
    rw [cut1' x2 x4]
    have s2 := same_new (o := .tup xs) nt
    have e2 : (upd H1 tt (.tup xs)) tt = some (.tup xs) := upd_same
    have e12 := s2 _ _ e1
    have s12 := s1.trans s2
    have nlt : lw ≠ tt := ne_of_none e1 nt
    generalize upd H1 tt (.tup xs) = H2 at *
    refine ⟨tt, rfl, ⟨_, SqT.of e2⟩, ?_⟩
    have flen : ∀ i, (((osD d).take i).filterMap id).length ≤ 4 := fun i => Nat.le_trans (List.length_filterMap_le _ _) (by rw [List.length_take]; omega)
    refine for_tup (K := K) (a := tt) (xs := xs) (fun i σ H' => ∃ v2 : Option V, σ = [some (.ref p), some (.ref lw), v2] ∧ Same H H' ∧ H' tt = some (.tup xs) ∧ H' lw = some (.lst (strsV ((((osD d).take i).filterMap id).map rN)))) ⟨_, rfl, s12, e2, e12⟩ (fun i σ H' _ ⟨_, _, _, e, _⟩ => SqT.of e) ?_ ?_
    · rintro i x σ H' hx ⟨v2, rfl, sH, et, el⟩
      have hlt : i < xs.length := (List.getElem?_eq_some_iff.mp hx).1
      have hlt' : i < (osD d).length := by omega
      have hxi : xs[i] = x := (List.getElem?_eq_some_iff.mp hx).2
      have key : ∀ {a : List V} {b : List (Option Nat)}, Paired (ItR H) a b → ∀ (j : Nat) (h1 : j < a.length) (h2 : j < b.length), ItR H a[j] b[j] := by
        intro a b hp
        induction hp with
        | nil => intro j h1; simp at h1
        | cons hh _ ih =>
          intro j h1 h2
          cases j with
          | zero => exact hh
          | succ j => exact ih j (by simpa using h1) (by simpa using h2)
      have hit := key hpr i hlt hlt'
      rw [hxi] at hit
      have tk : (osD d).take (i + 1) = (osD d).take i ++ [(osD d)[i]] := by rw [List.take_succ, List.getElem?_eq_getElem hlt']; rfl
      have fl := flen i
      generalize (osD d)[i] = z at *
      have no : z = none → ∃ v2 : Option V, [some (V.ref p), some (.ref lw), some x] = [some (.ref p), some (.ref lw), v2] ∧ Same H H' ∧ H' tt = some (.tup xs) ∧ H' lw = some (.lst (strsV ((((osD d).take (i + 1)).filterMap id).map rN))) := fun e => ⟨_, rfl, sH, et, by rw [tk, e]; simpa using el⟩
      cases hit with
      | str f => exact ⟨_, rfl, _, _, _, rfl, .str _, rfl, _, rfl, iteF (iteF (no rfl))⟩
      | int n => exact ⟨_, rfl, _, _, _, rfl, .int _, rfl, _, rfl, iteF (iteF (no rfl))⟩
      | @part v y a b =>
        obtain ⟨pp, rfl, hpp⟩ := id a
        have hpp' := sH _ _ hpp
        have hbd := pbd b
        refine ⟨_, rfl, _, _, _, rfl, .tup hpp', rfl, _, rfl, iteT ?_⟩
        by_cases hin : y.1 = "in"
        · have ei : inO y = some y.2.toNat := by unfold inO; rw [if_pos hin]
          have e7 : y.2 ≤ 7 := by
            rcases b with (⟨e, _⟩ | ⟨e, _⟩) | ⟨e, h0, h1⟩ | ⟨e, _⟩ | ⟨e, _⟩
            · exact absurd (e.symm.trans hin) (by decide +kernel)
            · exact absurd (e.symm.trans hin) (by decide +kernel)
            · exact h1
            · exact absurd (e.symm.trans hin) (by decide +kernel)
            · exact absurd (e.symm.trans hin) (by decide +kernel)
          have hn8 : y.2.toNat < 8 := by omega
          have en : ((y.2.toNat : Nat) : Int) = y.2 := Int.toNat_of_nonneg hbd.1
          refine ⟨_, rfl, pp, _, _, _, rfl, rfl, SqT.of hpp', rfl, rfl, _, rfl, iteA (by rw [hin]; decide +kernel) ?_⟩
          have hz9 := rN_len y.2.toNat hn8
          unfold rN at hz9
          rw [en, len_app] at hz9
          refine ⟨_, rfl, .inl ⟨rfl, _, SqL.of el⟩, _, rfl, pp, _, _, _, rfl, rfl, SqT.of hpp', rfl, _, rfl, log_small hbd.1 hbd.2, _, _, rfl, rfl, Nat.le_trans hz9 (by decide), ?_⟩
          refine ⟨lw, _, _, rfl, rfl, el, ?_, ?_⟩
          · unfold strsV
            rw [List.length_map, List.length_map]
            omega
          refine ⟨_, rfl, same_mut nw sH, by rw [upd_ne nlt.symm]; exact et, ?_⟩
          have er : ("r" ++ (toString y.2 : Str)) = rN y.2.toNat := by unfold rN; rw [en]
          rw [upd_same, tk, ei, List.filterMap_append, List.map_append]
          unfold strsV
          rw [List.map_append]
          show some (HO.lst (_ ++ [V.str ("r" ++ (toString y.2 : Str))])) = some (HO.lst (_ ++ [V.str (rN y.2.toNat)]))
          rw [er]
        · have ei : inO y = none := by unfold inO; rw [if_neg hin]
          refine ⟨_, rfl, pp, _, _, _, rfl, rfl, SqT.of hpp', rfl, rfl, _, rfl, iteB (by rw [decide_eq_false]; exact fun z => hin (V.str.inj z)) (no ei)⟩
    · rintro σ H' ⟨v2, rfl, sH, et, el⟩
      have ewl : (osD d).take xs.length = osD d := by rw [lx, List.take_length]
      rw [ewl, hos] at el
      have fin : ∀ l H3, Same H H3 → H3 lw = some (.lst (strsV l)) → l.length ≤ 3 → l = (inR (mdOf d)).map rN ++ (if kd d = 3 then [] else [("way" : Str)]) →
          ∃ (l0 : Addr) (ss : List Str), [V.ref lw] = [.ref l0] ∧ SqL K H3 l0 (ss.map V.str) ∧ ss.length ≤ 60 ∧ ∀ a, H3 a = none → ∃ (a0 : Addr) (ss0 : List Str), [V.ref a] = [.ref a0] ∧ (upd H3 a (SetTO P w a (foldT ss))) a0 = some (SetTO P w a0 ss0) ∧ ss0.length ≤ 60 ∧ ∀ p ss', (upd H3 a (SetTO P w a (foldT ss))) p = none → ss'.Perm ss0 → PyProof.Rows.sortedS ss' = true → Q (.ref p) (upd (upd H3 a (SetTO P w a (foldT ss))) p (.lst (ss'.map V.str))) := by
        intro l H3 s3 h3 hl el
        refine ⟨lw, l, rfl, SqL.of h3, by omega, fun a na => ⟨a, foldT l, rfl, upd_same, Nat.le_trans (foldT_len l) (by omega), fun r ss' nr hpm hso => ?_⟩⟩
        have s4 := same_new (o := SetTO P w a (foldT l)) na
        refine q r ss' _ (s3.trans (s4.trans (same_new nr))) ((s3.trans s4).free nr) ?_ hso upd_same
        rw [← el]
        exact hpm
      have l2' : ((inR (mdOf d)).map rN).length ≤ 2 := by rw [List.length_map]; exact hi2
      refine ⟨_, rfl, p, _, _, _, rfl, rfl, SqT.of (sH _ _ hp), at0 _ _, rfl, _, rfl, ?_⟩
      by_cases hk : kd d = 3
      · have hnm : nmD d = "two" := by cases d <;> first | rfl | (exact absurd hk (by simp [kd]))
        refine iteB (by rw [hnm]; decide +kernel) ?_
        refine ⟨_, rfl, fin _ H' sH el (by omega) (by rw [if_pos hk, List.append_nil])⟩
      · have hnm : decide (V.str (nmD d) ≠ V.str "two") = true := by
          refine decide_eq_true fun z => hk ?_
          exact nm_two d (V.str.inj z)
        refine iteA (by simpa using hnm) ?_
        refine ⟨_, rfl, .inl ⟨rfl, _, SqL.of el⟩, lw, _, _, rfl, rfl, el, ?_, ?_⟩
        · unfold strsV
          rw [List.length_map]
          omega
        refine ⟨_, rfl, fin ((inR (mdOf d)).map rN ++ [("way" : Str)]) _ (same_mut nw sH) ?_ (by rw [List.length_append]; simp; omega) (by rw [if_neg hk])⟩
        rw [upd_same]
        unfold strsV
        rw [List.map_append]
        rfl
end
end L3

set_option Elab.async false
set_option linter.all false
set_option maxRecDepth 100000
namespace L3
open PySem L2
/-! ### all of a step is right -/
structure Mts4 (P : Program) (w : World) (K : PySem.W.Frag) (mg : Str → Option Value) (base : Heap) (C : Nat → Addr) : Prop where
  told : ∀ k, k < 7 → MthOk P w K mg base (C k) "told" 1 ["self"] (spTold C k)
  words : ∀ k, k < 7 → MthOk P w K mg base (C k) "words" 2 ["self"] (spWords C k)
theorem ObD.at2 {C : Nat → Addr} {H : Hp} {v u : V} {d : Sd} (h : ObD C H v u d) : ∃ a dx fs, v = .ref a ∧ H a = some (.ins (C (kd d)) dx fs) ∧ fs.lookup ("told" : Str) = none ∧ fs.lookup ("words" : Str) = none ∧ fs.lookup ("reads" : Str) = none ∧ fs.lookup ("writes" : Str) = none := by
  cases h with
  | get o => exact ⟨_, _, _, rfl, o, rfl, rfl, rfl, rfl⟩
  | ask o => exact ⟨_, _, _, rfl, o, rfl, rfl, rfl, rfl⟩
  | cell o => exact ⟨_, _, _, rfl, o, rfl, rfl, rfl, rfl⟩
  | two o => exact ⟨_, _, _, rfl, o, rfl, rfl, rfl, rfl⟩
  | put o => exact ⟨_, _, _, rfl, o, rfl, rfl, rfl, rfl⟩
  | tell o => exact ⟨_, _, _, rfl, o, rfl, rfl, rfl, rfl⟩
  | store o => exact ⟨_, _, _, rfl, o, rfl, rfl, rfl, rfl⟩
theorem sel_ok {x : Part} (h : SelC x) : okS x.1 = true := by rcases h with ⟨e, _⟩ | ⟨e, _⟩ <;> (rw [e]; decide +kernel)
theorem src_ok {x : Part} (h : SrcC x) : okS x.1 = true := by rcases h with ⟨e, _⟩ | ⟨e, _⟩ | ⟨e, _⟩ <;> (rw [e]; decide +kernel)
theorem ops_ok : ∀ f ∈ opsL, okS f = true := by decide +kernel
theorem Pt.td {H : Hp} {v : V} {x : Part} (h : Pt H v x) (o : okS x.1 = true) : Td H v (.tuple [.str x.1, .int x.2]) := by
  obtain ⟨p, rfl, hp⟩ := h
  exact .tup hp (.cons (.str _ o) (.cons (.int _) .nil))
theorem nm_ok (d : Sd) : okS (nmD d) = true := by
  have h0 : okS "get" = true := by decide +kernel
  have h1 : okS "ask" = true := by decide +kernel
  have h2 : okS "cell" = true := by decide +kernel
  have h3 : okS "two" = true := by decide +kernel
  have h4 : okS "put" = true := by decide +kernel
  have h5 : okS "tell" = true := by decide +kernel
  have h6 : okS "store" = true := by decide +kernel
  cases d <;> assumption
/-- a told step as data -/
theorem TolD.td {H : Hp} {v : V} {d : Sd} (h : TolD H v d) : ∃ p xs ds, v = .ref p ∧ H p = some (.tup (.str (nmD d) :: xs)) ∧ TdAll H xs ds ∧ PyData.depthAll ds ≤ 50 ∧ 2 ≤ xs.length ∧ xs.length ≤ 4 := by
  cases h with
  | get a b c e => exact ⟨_, _, _, rfl, a, .cons (.int _) (.cons (c.td (sel_ok e)) .nil), by simp [PyData.depthAll, PyData.depth], by simp, by simp⟩
  | ask a b c e => exact ⟨_, _, _, rfl, a, .cons (.int _) (.cons (c.td (sel_ok e)) .nil), by simp [PyData.depthAll, PyData.depth], by simp, by simp⟩
  | cell a b c e => exact ⟨_, _, _, rfl, a, .cons (.int _) (.cons (c.td (src_ok e)) .nil), by simp [PyData.depthAll, PyData.depth], by simp, by simp⟩
  | two a b f c e g i => exact ⟨_, _, _, rfl, a, .cons (.int _) (.cons (.str _ (ops_ok _ f)) (.cons (c.td (src_ok e)) (.cons (g.td (src_ok i)) .nil))), by simp [PyData.depthAll, PyData.depth], by simp, by simp⟩
  | put a c e g i => exact ⟨_, _, _, rfl, a, .cons (c.td (sel_ok e)) (.cons (g.td (src_ok i)) .nil), by simp [PyData.depthAll, PyData.depth], by simp, by simp⟩
  | tell a c e g i => exact ⟨_, _, _, rfl, a, .cons (c.td (sel_ok e)) (.cons (g.td (src_ok i)) .nil), by simp [PyData.depthAll, PyData.depth], by simp, by simp⟩
  | store a c e g i => exact ⟨_, _, _, rfl, a, .cons (c.td (src_ok e)) (.cons (g.td (src_ok i)) .nil), by simp [PyData.depthAll, PyData.depth], by simp, by simp⟩
/-- two tuples of the same things are the same -/
theorem neD_same {K : PySem.W.Frag} {H : Hp} {a b : Addr} {xs : List V} {ds : List PyData} {Q : V → Hp → Prop} (ha : H a = some (.tup xs)) (hb : H b = some (.tup xs)) (t : TdAll H xs ds) (hd : PyData.depthAll ds ≤ 55) (q : Q (.bl false) H) : rNeD K (.ref a) (.ref b) H Q := by
  have t1 : Td H (.ref a) (.tuple ds) := .tup ha t
  have t2 : Td H (.ref b) (.tuple ds) := .tup hb t
  refine ⟨_, _, t1.dt, t2.dt, t1.lay, t2.lay, ?_, ?_⟩
  · simp only [PyData.depth]
    omega
  · rw [t1.eqv]
    exact q
theorem dt_bls {K : PySem.W.Frag} {H : Hp} : ∀ (l : List Bool), DtAll K H (l.map V.bl) (l.map PyData.bool)
  | [] => .nil
  | x :: l => .cons (.bl x) (dt_bls l)
theorem lay_bls : ∀ (l : List Bool), PyData.canLayAll0 (l.map PyData.bool) = true
  | [] => rfl
  | x :: l => by simp [PyData.canLayAll0, PyData.canLay0, lay_bls l]
theorem eqv_bls : ∀ (l : List Bool), PyData.eqvAll (l.map PyData.bool) (l.map PyData.bool) = true
  | [] => rfl
  | x :: l => by simp [PyData.eqvAll, PyData.eqv, eqv_bls l]
theorem depth_bls : ∀ l : List Bool, PyData.depthAll (l.map PyData.bool) ≤ 1
  | [] => by simp [PyData.depthAll]
  | x :: r => by
    have := depth_bls r
    simp only [List.map_cons, PyData.depthAll, PyData.depth]
    omega
theorem neD_bls {K : PySem.W.Frag} {H : Hp} {a b : Addr} {l : List Bool} {Q : V → Hp → Prop} (ha : H a = some (.lst (l.map V.bl))) (hb : H b = some (.lst (l.map V.bl))) (q : Q (.bl false) H) : rNeD K (.ref a) (.ref b) H Q := by
  refine ⟨_, _, .lst (SqL.of ha) (dt_bls l), .lst (SqL.of hb) (dt_bls l), ?_, ?_, ?_, ?_⟩
  · exact lay_bls l
  · exact lay_bls l
  · have := depth_bls l
    simp only [PyData.depth]
    omega
  · have : PyData.eqv (.list (l.map PyData.bool)) (.list (l.map PyData.bool)) = true := by simp only [PyData.eqv]; exact eqv_bls l
    rw [this]
    exact q
def W7 : List Str := ["get", "ask", "cell", "two", "put", "tell", "store"]
def bls (d : Sd) : List Bool := W7.map fun z => decide (V.str z = V.str (nmD d))
theorem bls_eq (d : Sd) : bsV d = (bls d).map V.bl := by
  cases d <;> (show [V.bl _, V.bl _, V.bl _, V.bl _, V.bl _, V.bl _, V.bl _] = [V.bl _, V.bl _, V.bl _, V.bl _, V.bl _, V.bl _, V.bl _]; kernel_rfl)
theorem rd_ok {m : Md} {ns : List Nat} (h : ns.length ≤ 2) (h8 : ∀ k ∈ ns, k < 8) : ∀ z ∈ nms m ns, okS z = true := by
  obtain ⟨f1, f2, f3⟩ := foldN_facts h
  have k8 : ∀ k < 8, okS (rN k) = true := by decide +kernel
  intro z hz
  unfold nms at hz
  rcases List.mem_append.mp hz with hz | hz
  · obtain ⟨k, hk, rfl⟩ := List.mem_map.mp hz
    exact k8 k (h8 k ((f3 k).mp hk))
  · split at hz
    · cases hz
    · rw [List.mem_singleton.mp hz]
      decide +kernel
def spRight (C : Nat → Addr) : Sp := fun vs H Q _ => ∃ v pu d, vs = [v, .ref pu] ∧ ObD C H v (.ref pu) d ∧ ∀ H', Same H H' → Q (.bl true) H'
section
variable {P : Program} {w : World} {K : PySem.W.Frag} {mg : Str → Option Value} {base : Heap} {C fi : Nat → Addr} {cS : Addr}
theorem scLRight : FnScope ["_law_made", "_law_step_here", "_law_words", "_law_reads_here", "_law_writes_here"] ["_law_made", "_law_step_here"] (defScope sLRight) := ⟨rfl, rfl, rfl, by decide +kernel, rfl, by decide +kernel, by decide +kernel⟩
theorem ndW : (["_law_word", "_law_step_here"] : List Str).Nodup := by decide +kernel
set_option maxHeartbeats 8000000 in
theorem ok_lRight {f : Addr} {fd : FuncData} (F : Fun K "_law_right" "_law_right" sLRight f fd) (B : Bl mg) (T : Ct K mg C fi) (T2 : Ct2 K C cS) (mgS : mg "Step" = some (.ref cS)) (U3 : Mts3 P w K mg base C) (U4 : Mts4 P w K mg base C)
    (SR : Fn P w K mg base "_law_sorts" 1 ["_law_made"] (spSorts C)) (ST : Fn P w K mg base "_law_step_text" 2 ["_law_step_here"] spST) (FI : Fn P w K mg base "_law_fields" 1 ["_law_made", "_law_word"] (spLFields C)) (IL : Fn P w K mg base "_law_is_list" 1 ["_law_found", "_law_due"] spIsList)
    (LW : Fn P w K mg base "_law_writes" 1 ["_law_step_here"] spLWrites) (LR : Fn P w K mg base "_law_reads" 1 ["_law_step_here"] spLReads) : FnOk P w K mg base CX0 4 f fd ["_law_made", "_law_step_here"] (spRight C) := by
  refine F.ok scLRight (fun vs H Q E h => ?_) (fun cdv A outer s H vs Q E hr h => ?_)
  · obtain ⟨v, pu, d, rfl, _⟩ := h
    rfl
  · obtain ⟨v, pu, d, rfl, hv, q⟩ := h
    have hr1 : Room 1 _ := hr.mono (by decide)
    have hr2 : Room 2 _ := hr.mono (by decide)
    have P0 : St → Hp → Prop := fun σ H' => ∃ v2 v3 v4 : Option V, σ = [some v, some (.ref pu), v2, v3, v4] ∧ Same H H'
    refine ⟨_, pss_cons (ps_set (i := 2) scLRight.nd rfl (Or.inl rfl) (pe_lst (pa_cons pe_str (pa_cons pe_str (pa_cons pe_str (pa_cons pe_str (pa_cons pe_str (pa_cons pe_str (pa_cons pe_str pa_nil)))))))))
      (pss_cut (fun σ H' => ∃ v2 v3 v4 : Option V, σ = [some v, some (.ref pu), v2, v3, v4] ∧ Same H H') (ps_if (PW.pt (pw_or (pt_cmpR (op_neD hr) (pe_fn SR hr1 rfl (pa_cons (pv 0) pa_nil)) (pe_lc (N' := ["_law_word", "_law_step_here"]) (ix := [none, some 1]) (sc0 := defScope sLRight) (N := ["_law_made", "_law_step_here", "_law_words", "_law_reads_here", "_law_writes_here"]) rfl (by decide +kernel) (pi_list (pv 2))
          (fun C' cl s H fp => pg_name (i := 0) ndW rfl (Or.inl rfl) (.inr rfl)) (fun _ _ _ _ _ => pf_nil) (fun C' cl s H fp => pe_cmpR op_eq (pv 0) (pe_ix (ix_tupK (K := K) rfl) (pv 1) pe_int (fun _ _ => rfl)) (nomark _))) (nomark _))
        (pw_or1 (pt_not (pt_val (pe_callB (isi_own (c := .none) (b := true) (x := "")) (by rfl) B.isinstance boot_isi (pa_cons (pv 0) (pa_cons (pe_glob (v := .ref cS) rfl mgS rfl) pa_nil)))))))) (pss_one (ps_ret pe_bl)) pss_nil)
      (pss_cut (fun σ H' => ∃ v2 v3 v4 : Option V, σ = [some v, some (.ref pu), v2, v3, v4] ∧ Same H H') (ps_if (PW.pt (pw_or (pt_not (pt_val (pe_callB (isi_ty (T := "tuple")) (by rfl) B.isinstance boot_isi (pa_cons (pe_methD0 (pv 0)) (pa_cons (pe_ty (by rfl) B.tuple boot_tuple') pa_nil)))))
          (pw_or (pt_cmpR (op_neD hr) (pe_methD0 (pv 0)) (pv 1) (nomark _)) (pw_or1 (pt_cmpR op_ne (pe_methD0 (pv 0)) (pe_fn ST hr2 rfl (pa_cons (pv 1) pa_nil)) (nomark _)))))) (pss_one (ps_ret pe_bl)) pss_nil)
      (pss_cut (fun σ H' => ∃ v2 v3 v4 : Option V, σ = [some v, some (.ref pu), v2, v3, v4] ∧ Same H H') (ps_if (pt_cmpR (op_neD hr) (pe_fn FI hr1 rfl (pa_cons (pv 0) (pa_cons (pe_ix ix_tup (pv 1) pe_int (fun _ _ => rfl)) pa_nil))) (pe_slice sl_tup (pv 1) (po_some pe_int) po_none) (nomark _)) (pss_one (ps_ret pe_bl)) pss_nil)
      (pss_cons (ps_set (i := 3) scLRight.nd rfl (Or.inl rfl) (pe_methD0 (pv 0)))
      (pss_cons (ps_set (i := 4) scLRight.nd rfl (Or.inl rfl) (pe_methD0 (pv 0)))
      (pss_cons (ps_if (PW.pt (pw_or (pt_not (pt_val (pe_fn IL hr1 rfl (pa_cons (pv 4) (pa_cons (pe_fn LW hr1 rfl (pa_cons (pv 1) pa_nil)) pa_nil))))) (pw_or1 (pt_not (pt_val (pe_fn IL hr1 rfl (pa_cons (pv 3) (pa_cons (pe_fn LR hr1 rfl (pa_cons (pv 1) pa_nil)) pa_nil)))))))) (pss_one (ps_ret pe_bl)) pss_nil)
      (pss_cons (ps_expr (pe_bm PySem.F.plainAttrs_list PySem.F.slot_list_append PySem.F.type_list_append mt_append (pv 3) (pa_cons pe_str pa_nil)))
      (pss_cons (ps_expr (pe_bm0 PySem.F.plainAttrs_list PySem.F.slot_list_clear PySem.F.type_list_clear mt_clear (pv 4)))
      (pss_one (ps_ret pe_bl)))))))))), ?_⟩
    obtain ⟨a, dx, fs, rfl, ho, k1, k2, k3, k4⟩ := hv.at2
    obtain ⟨pu', xs, ds, epu, hpu, htd, hdp, x2, x4⟩ := hv.tolD.td
    cases epu
    have kk := kd7 d
    obtain ⟨ft, fdt, Mt, Ft, Bt⟩ := U4.told (kd d) kk
    obtain ⟨fw, fdw, Mw, Fw, Bw⟩ := U4.words (kd d) kk
    have hmk := kd_md d
    obtain ⟨frd, fdrd, Mrd, Frd, Brd⟩ := U3.rd (kd d) kk
    obtain ⟨fwr, fdwr, Mwr, Fwr, Bwr⟩ := U3.wr (kd d) kk
    refine ⟨(by show 7 ≤ sizeLine; decide), fun lw nw => ?_⟩
    have s1 := same_new (o := .lst (W7.map V.str)) nw
    have e1 : (upd H lw (.lst (W7.map V.str))) lw = some (.lst (W7.map V.str)) := upd_same
    generalize hG : upd H lw (.lst (W7.map V.str)) = H1 at *
    have hG' : upd H lw (.lst [V.str "get", V.str "ask", V.str "cell", V.str "two", V.str "put", V.str "tell", V.str "store"]) = H1 := hG
    rw [hG']
    refine ⟨?_, ?_⟩
    · rintro σ H2 ⟨v2, v3, v4, rfl, s2⟩
      refine ⟨?_, ?_⟩
      · rintro σ H3 ⟨v2, v3, v4, rfl, s3⟩
        refine ⟨?_, ?_⟩
        · rintro σ H4 ⟨v2, v3, v4, rfl, s4⟩
          have hv4 := hv.same s4
          have sv := hv4.sv
          refine ⟨_, rfl, a, dx, C (kd d), frd, fs, fdrd, 3, ["self"], _, rfl, s4 _ _ ho, k3, T.cls _ kk, Mrd, Frd, hr, Brd, .ref a, _, rfl, sv, fun p1 H5 s5 n1 e1 => ?_⟩
          refine ⟨_, rfl, a, dx, C (kd d), fwr, fs, fdwr, 3, ["self"], _, rfl, s5 _ _ (s4 _ _ ho), k4, T.cls _ kk, Mwr, Fwr, hr, Bwr, .ref a, _, rfl, sv.same s5, fun p2 H6 s6 n2 e2 => ?_⟩
          have s46 := s5.trans s6
          have s06 := s4.trans s46
          refine ⟨_, rfl, _, rfl, _, _, rfl, hv.tolD.kt (kt_same s06), fun p3 H7 s7 n3 e3 => ?_⟩
          refine ⟨p2, p3, writesN (mdOf d), rfl, s7 _ _ e2, e3, rd_ok sv.tgt8.1 sv.tgt8.2, Nat.le_trans (nms_len sv.tgt8.1) (by decide), _, rfl, iteF ?_⟩
          have s07 := s06.trans s7
          refine ⟨_, rfl, _, rfl, _, _, rfl, hv.tolD.kt (kt_same s07), sv.in8.1, sv.in8.2, fun p4 ss H8 s8 n4 hpm hso e4 => ?_⟩
          have ess := reads_due sv.in8.1 sv.in8.2 hpm hso
          subst ess
          refine ⟨p1, p4, readsN (mdOf d), rfl, s8 _ _ (s7 _ _ (s6 _ _ e1)), e4, rd_ok sv.in8.1 sv.in8.2, Nat.le_trans (nms_len sv.in8.1) (by decide), _, rfl, iteF ?_⟩
          have s08 := s07.trans s8
          have e1' := s8 _ _ (s7 _ _ (s6 _ _ e1))
          have e2' := s8 _ _ (s7 _ _ e2)
          have np1 : H p1 = none := s4.free n1
          have np2 : H p2 = none := (s4.trans s5).free n2
          have n12 : p1 ≠ p2 := ne_of_none e1 n2
          refine ⟨_, rfl, .inl ⟨rfl, _, SqL.of e1'⟩, p1, _, _, rfl, rfl, e1', ?_, ?_⟩
          · unfold strsV
            rw [List.length_map]
            have : (readsN (mdOf d)).length ≤ 3 := nms_len sv.in8.1
            exact Nat.lt_of_le_of_lt this (by decide)
          have e2'' : (upd H8 p1 (.lst (strsV (readsN (mdOf d)) ++ [.str "way"]))) p2 = some (.lst (strsV (writesN (mdOf d)))) := by rw [upd_ne n12.symm]; exact e2'
          refine ⟨_, rfl, .inl ⟨rfl, _, SqL.of e2''⟩, p2, _, rfl, rfl, e2'', ?_⟩
          exact q _ (same_mut np2 (same_mut np1 s08))
        · have hv3 := hv.same s3
          have hpu3 := s3 _ _ hpu
          refine ⟨_, rfl, _, rfl, pu, _, _, _, rfl, rfl, SqT.of hpu3, at0 _ _, .ref a, pu, d, nmD d, rfl, rfl, hv3, fun p1 ys H4 s4 n1 hys e1 => ?_⟩
          have eys : ys = xs := by
            rw [hpu3] at hys
            have := HO.tup.inj (Option.some.inj hys)
            exact (List.cons.inj this).2.symm
          subst eys
          have s04 := s3.trans s4
          refine ⟨_, rfl, _, rfl, pu, _, rfl, SqT.of (s04 _ _ hpu), notWhole, fun tt nt => ?_⟩
          rw [cut1' x2 x4]
          have s5 := same_new (o := .tup ys) nt
          refine neD_same (ds := ds) (s5 _ _ e1) upd_same (htd.kt (kt_same (s04.trans s5))) (by omega) ⟨_, rfl, iteF ?_⟩
          exact ⟨_, _, _, rfl, s04.trans s5⟩
      · have hv2 := hv.same s2
        have ho2 := s2 _ _ ho
        have hpu2 := s2 _ _ hpu
        refine ⟨_, rfl, a, dx, C (kd d), ft, fs, fdt, 1, ["self"], _, rfl, ho2, k1, T.cls _ kk, Mt, Ft, hr1, Bt, .ref a, pu, d, rfl, hv2, rfl, fun p1 ys n1 hys => ?_⟩
        have s3 := same_new (o := .tup ys) n1
        have e3 : (upd H2 p1 (.tup ys)) p1 = some (.tup ys) := upd_same
        generalize upd H2 p1 (.tup ys) = H3 at *
        refine ⟨_, _, _, rfl, .tup e3, rfl, _, rfl, iteF ?_⟩
        have s03 := s2.trans s3
        refine ⟨_, rfl, a, dx, C (kd d), ft, fs, fdt, 1, ["self"], _, rfl, s3 _ _ ho2, k1, T.cls _ kk, Mt, Ft, hr1, Bt, .ref a, pu, d, rfl, hv.same s03, rfl, fun p2 zs n2 hzs => ?_⟩
        have ezs : zs = .str (nmD d) :: xs := by
          rw [s3 _ _ hpu2] at hzs
          exact (HO.tup.inj (Option.some.inj hzs)).symm
        subst ezs
        have s4 := same_new (o := .tup (V.str (nmD d) :: xs)) n2
        have s04 := s03.trans s4
        refine ⟨_, rfl, neD_same (ds := .str (nmD d) :: ds) upd_same (s04 _ _ hpu) (.cons (.str _ (nm_ok d)) (htd.kt (kt_same s04))) ?_ ⟨_, rfl, iteF ?_⟩⟩
        · simp only [PyData.depthAll, PyData.depth]
          omega
        generalize upd H3 p2 (.tup (V.str (nmD d) :: xs)) = H4 at *
        refine ⟨_, rfl, a, dx, C (kd d), fw, fs, fdw, 2, ["self"], _, rfl, s04 _ _ ho, k2, T.cls _ kk, Mw, Fw, hr2, Bw, .ref a, .ref pu, d, rfl, hv.same s04, rfl, ?_⟩
        refine ⟨_, rfl, _, d, rfl, hv.tolD.kt (kt_same s04), fun H5 s5 => ⟨rfl, _, rfl, iteB (by simp) ?_⟩⟩
        exact ⟨_, _, _, rfl, s04.trans s5⟩
    · have hv1 := hv.same s1
      have hpu1 := s1 _ _ hpu
      refine ⟨_, rfl, .ref a, .ref pu, d, rfl, hv1, fun p1 H2 s2 n1 e2 => ?_⟩
      have s02 := s1.trans s2
      have hpu2 := s2 _ _ hpu1
      refine ⟨_, rfl, lw, rfl, ⟨_, SqL.of (s2 _ _ e1)⟩, ?_⟩
      have l7 : (W7.map V.str).length = 7 := rfl
      have lb : (bls d).length = 7 := rfl
      refine lc_list (K := K) (a := lw) (xs := W7.map V.str) (fun i ys H' => H' = H2 ∧ ys = ((bls d).take i).map V.bl) ⟨rfl, rfl⟩ (fun i ys H' hi ⟨a1, a2⟩ => by
          subst a1 a2
          refine ⟨SqL.of (s2 _ _ e1), ?_⟩
          rw [List.length_map, List.length_take, lb]
          have : (1000 : Nat) ≤ sizeLine := by decide
          omega) ?_ ?_
      · rintro i x ys H' hx ⟨rfl, rfl⟩
        have hlt : i < (W7.map V.str).length := (List.getElem?_eq_some_iff.mp hx).1
        have hlt7 : i < W7.length := by rw [List.length_map] at hlt; exact hlt
        have ex : x = .str W7[i] := by
          have := (List.getElem?_eq_some_iff.mp hx).2
          rw [← this, List.getElem_map]
        subst ex
        refine ⟨⟨rfl, trivial⟩, tAny_T ?_⟩
        refine ⟨_, rfl, _, rfl, pu, _, _, _, rfl, rfl, SqT.of hpu2, at0 _ _, rfl, ?_⟩
        refine Nx.mk hlt ⟨rfl, ?_⟩
        have et : (bls d).take (i + 1) = (bls d).take i ++ [decide (V.str W7[i] = V.str (nmD d))] := by
          rw [List.take_succ]
          unfold bls
          rw [List.getElem?_map, List.getElem?_eq_getElem hlt7]
          rfl
        rw [et, List.map_append]
        rfl
      · rintro ys H' ⟨rfl, rfl⟩ D hD
        have etk : (bls d).take (W7.map V.str).length = bls d := by rw [l7, ← lb, List.take_length]
        rw [etk]
        have s3 := same_new (o := .lst ((bls d).map V.bl)) hD
        rw [bls_eq] at e2
        refine neD_bls (l := bls d) (s3 _ _ e2) upd_same ⟨_, rfl, iteF ?_⟩
        have s03 := s02.trans s3
        refine ⟨_, rfl, _, _, _, _, _, rfl, .ins (s03 _ _ ho) (T.cls _ kk) (T2.t1 _ kk) T2.t2 T2.t3 (T2.t4 _ kk), fun u r => r, T2.kitS _ kk, _, rfl, iteF ?_⟩
        exact ⟨_, _, _, rfl, s03⟩
end
end L3

set_option Elab.async false
set_option linter.all false
set_option maxRecDepth 100000
namespace L3
open PySem L2
theorem bs_same {H1 H2 H3 : Hp} {p : Addr} (s : Same H1 H2) (n : H1 p = none) (b : But p H2 H3) : Same H1 H3 := fun c o e => b c o (s c o e) (ne_of_none e n)
def spLaw (K : PySem.W.Frag) : Sp := fun vs H Q _ => ∃ (a : Addr) (ns : List Int), vs = [.ref a] ∧ SqL K H a (ns.map V.int) ∧ ns.length ≤ 63 ∧ ∀ H', Q (.bl true) H'
section
variable {P : Program} {w : World} {K : PySem.W.Frag} {mg : Str → Option Value} {base : Heap} {C fi : Nat → Addr}
theorem scLaw : FnScope ["_law_script", "_law_k", "_law_stream_here", "_law_first", "_law_second", "_law_one", "_law_other"] ["_law_script"] (defScope sLaw) := ⟨rfl, rfl, rfl, by decide +kernel, rfl, by decide +kernel, by decide +kernel⟩
set_option maxHeartbeats 8000000 in
theorem ok_law {f : Addr} {fd : FuncData} (F : Fun K "law" "law" sLaw f fd) (B : Bl mg) (CL : Fn P w K mg base "_law_cell" 1 ["_law_script", "_law_k"] (spCell K)) (ST : Fn P w K mg base "_law_stream" 1 ["_law_cell_here"] spStream) (LS : Fn P w K mg base "_law_step" 3 ["_law_stream_here"] spLStep)
    (SF : Fn P w K mg base "step_of" 6 ["told"] (spStepOf C)) (BC : Fn P w K mg base "_law_by_class" 3 ["_law_step_here"] (spStepOf C)) (RI : Fn P w K mg base "_law_right" 4 ["_law_made", "_law_step_here"] (spRight C)) : FnOk P w K mg base CX0 8 f fd ["_law_script"] (spLaw K) := by
  refine F.ok scLaw (fun vs H Q E h => ?_) (fun cdv A outer s H vs Q E hr h => ?_)
  · obtain ⟨l, ns, rfl, _⟩ := h
    rfl
  · obtain ⟨l, ns, rfl, hS, hl, q⟩ := h
    have hr1 : Room 1 _ := hr.mono (by decide)
    have hr3 : Room 3 _ := hr.mono (by decide)
    have hr4 : Room 4 _ := hr.mono (by decide)
    have hr6 : Room 6 _ := hr.mono (by decide)
    refine ⟨_, pss_cons (ps_for PassesOwn.never rfl (pi_range1 rfl B.range (pa_cons (pe_callB (call_max2 rfl) (by rfl) B.max PyProof.Rows.boot_max (pa_cons pe_int (pa_cons (pe_callB (call_min2 rfl) (by rfl) B.min PyProof.Rows.boot_min (pa_cons (pe_callB call_len_seq (by rfl) B.len PySem.boot_len (pa_cons (pv 0) pa_nil)) (pa_cons pe_int pa_nil))) pa_nil))) pa_nil)) (pg_name (i := 1) scLaw.nd rfl (Or.inl rfl))
        (pss_cons (ps_set (i := 2) scLaw.nd rfl (Or.inl rfl) (pe_fn ST hr1 rfl (pa_cons (pe_fn CL hr1 rfl (pa_cons (pv 0) (pa_cons (pv 1) pa_nil))) pa_nil)))
        (pss_cons (ps_set (i := 3) scLaw.nd rfl (Or.inl rfl) (pe_fn LS hr3 rfl (pa_cons (pv 2) pa_nil)))
        (pss_cons (ps_set (i := 4) scLaw.nd rfl (Or.inl rfl) (pe_fn LS hr3 rfl (pa_cons (pv 2) pa_nil)))
        (pss_cons (ps_set (i := 5) scLaw.nd rfl (Or.inl rfl) (pe_fn SF hr6 rfl (pa_cons (pv 3) pa_nil)))
        (pss_cons (ps_set (i := 6) scLaw.nd rfl (Or.inl rfl) (pe_fn SF hr6 rfl (pa_cons (pv 4) pa_nil)))
        (pss_cons (ps_if (PW.pt (pw_or (pt_not (pt_val (pe_fn RI hr4 rfl (pa_cons (pv 5) (pa_cons (pv 3) pa_nil))))) (pw_or (pt_not (pt_val (pe_fn RI hr4 rfl (pa_cons (pv 6) (pa_cons (pv 4) pa_nil))))) (pw_or1 (pt_not (pt_val (pe_fn RI hr4 rfl (pa_cons (pv 5) (pa_cons (pv 3) pa_nil))))))))) (pss_one (ps_ret pe_bl)) pss_nil)
        (pss_one (ps_if (PW.pt (pw_or (pt_not (pt_val (pe_fn RI hr4 rfl (pa_cons (pe_fn BC hr3 rfl (pa_cons (pv 4) pa_nil)) (pa_cons (pv 4) pa_nil))))) (pw_or1 (pt_not (pt_val (pe_fn RI hr4 rfl (pa_cons (pe_fn BC hr3 rfl (pa_cons (pv 3) pa_nil)) (pa_cons (pv 3) pa_nil)))))))) (pss_one (ps_ret pe_bl)) pss_nil)))))))))
      (pss_one (ps_ret pe_bl)), ?_⟩
    refine ⟨_, rfl, l, _, rfl, .inl hS, _, _, rfl, _, _, rfl, _, rfl, ?_, ?_, ?_⟩
    · split <;> (try split) <;> omega
    · rw [List.length_map]; split <;> (try split) <;> omega
    refine for_range (lo := 0) (fun i σ H2 => ∃ v1 v2 v3 v4 v5 v6 : Option V, σ = [some (.ref l), v1, v2, v3, v4, v5, v6] ∧ Same H H2) ⟨_, _, _, _, _, _, rfl, Same.refl _⟩ ?_ ?_
    · rintro i σ H1 hi ⟨v1, v2, v3, v4, v5, v6, rfl, s1⟩
      refine ⟨_, rfl, _, rfl, l, ns, 0 + (i : Int), rfl, s1.seq hS, by omega, fun c => ⟨c, rfl, fun p H2 np s2 g2 => ?_⟩⟩
      refine ⟨_, rfl, p, rfl, g2, fun u1 d1 H3 t1 g3 b3 => ?_⟩
      refine ⟨_, rfl, p, rfl, g3, fun u2 d2 H4 t2 g4 b4 => ?_⟩
      have t1' := t1.kt (g3.kt b4)
      obtain ⟨pu1, _, rfl, _⟩ := t1.parts
      obtain ⟨pu2, _, rfl, _⟩ := t2.parts
      have s4 : Same H1 H4 := bs_same s2 np (b3.trans b4)
      have s04 := s1.trans s4
      refine ⟨_, rfl, _, d1, rfl, t1', fun z1 H5 s5 o1 => ?_⟩
      refine ⟨_, rfl, _, d2, rfl, t2.kt (kt_same s5), fun z2 H6 s6 o2 => ?_⟩
      have s06 := s04.trans (s5.trans s6)
      have o1' := o1.same s6
      refine ⟨_, rfl, _, rfl, z1, pu1, d1, rfl, o1', fun H7 s7 => ⟨_, rfl, iteF ?_⟩⟩
      refine ⟨_, rfl, _, rfl, z2, pu2, d2, rfl, o2.same s7, fun H8 s8 => ⟨_, rfl, iteF ?_⟩⟩
      refine ⟨_, rfl, _, rfl, z1, pu1, d1, rfl, o1'.same (s7.trans s8), fun H9 s9 => ⟨_, rfl, iteF ?_⟩⟩
      have s69 := (s7.trans s8).trans s9
      have s09 := s06.trans s69
      have k1 := (o1'.same s69).tolD
      have k2 := (o2.same s69).tolD
      refine ⟨_, rfl, _, d2, rfl, k2, fun z3 H10 s10 o3 => ⟨_, rfl, z3, pu2, d2, rfl, o3, fun H11 s11 => ⟨_, rfl, iteF ?_⟩⟩⟩
      refine ⟨_, rfl, _, d1, rfl, k1.kt (kt_same (s10.trans s11)), fun z4 H12 s12 o4 => ⟨_, rfl, z4, pu1, d1, rfl, o4, fun H13 s13 => ⟨_, rfl, iteF ?_⟩⟩⟩
      exact ⟨_, _, _, _, _, _, rfl, s09.trans ((s10.trans s11).trans (s12.trans s13))⟩
    · rintro σ H2 ⟨v1, v2, v3, v4, v5, v6, rfl, s2⟩
      exact q H2
end
end L3

set_option Elab.async false
set_option linter.all false
set_option maxRecDepth 100000
namespace L3
open PySem L2
def DefIn (K : PySem.W.Frag) (x : Str) (st : Stmt) (f : Addr) : Prop :=
  PySem.W.nsIn K mainGlobals x = some (some (.ref f)) ∧ ∃ fd : FuncData, Fun K x x st f fd
theorem def_mk {K : PySem.W.Frag} {x : Str} {st : Stmt} {f : Addr} {oc : Value} {od an : Option Addr} {osl : Array (Option Value)} {kV doc pm cdv ct : Value} (a : PySem.W.nsIn K mainGlobals x = some (some (.ref f)))
    (l : K.lookup f = some ⟨oc, od, .func (PySem.W.fnOf x x (defArgs st) (defBody st) (defScope st) .none kV doc pm an cdv ct), osl⟩) (c : PySem.W.codeIn K cdv x = true) (k : PySem.W.keepIn K (.ref f) = true) : DefIn K x st f := ⟨a, _, fun_mk l c k⟩
theorem fn_mk {P : Program} {w : World} {K : PySem.W.Frag} {mg : Str → Option Value} {base h : Heap} {x : Str} {st : Stmt} {f : Addr} {k : Nat} {ps : List Str} {sp : Sp} (X : K.In h) (G : h.Ns mainGlobals mg) (D : DefIn K x st f)
    (hb : ∀ (kV doc pm : Value) (an : Option Addr) (cdv ct : Value) (us : List Value), us.length = ps.length → bindArgs (PySem.W.fnOf x x (defArgs st) (defBody st) (defScope st) .none kV doc pm an cdv ct) ⟨us, []⟩ = pure (ps.zip us))
    (ok : ∀ fd, Fun K x x st f fd → FnOk P w K mg base CX0 k f fd ps sp) : Fn P w K mg base x k ps sp := by
  obtain ⟨a, fd, F⟩ := D
  exact ⟨f, fd, PySem.W.mg_of X G a, F.kp, F.binds hb, ok fd F⟩
/-- a def of a class -/
structure MIn (K : PySem.W.Frag) (x qual : Str) (st : Stmt) (f : Addr) : Prop where
  fu : ∃ fd : FuncData, Fun K x qual st f fd
  fn : PySem.W.isFn K (.ref f) = true
theorem min_mk {K : PySem.W.Frag} {x qual : Str} {st : Stmt} {f : Addr} {oc : Value} {od an : Option Addr} {osl : Array (Option Value)} {kV doc pm cdv ct : Value}
    (l : K.lookup f = some ⟨oc, od, .func (PySem.W.fnOf x qual (defArgs st) (defBody st) (defScope st) .none kV doc pm an cdv ct), osl⟩) (c : PySem.W.codeIn K cdv qual = true) (k : PySem.W.keepIn K (.ref f) = true) (n : PySem.W.isFn K (.ref f) = true) : MIn K x qual st f := ⟨⟨_, fun_mk l c k⟩, n⟩
theorem mth_mk {P : Program} {w : World} {K : PySem.W.Frag} {mg : Str → Option Value} {base : Heap} {Cc f : Addr} {x qual : Str} {st : Stmt} {k : Nat} {ps : List Str} {sp : Sp} (a : PySem.W.findIn K (.ref Cc) x = some (some (.ref f))) (D : MIn K x qual st f)
    (hb : ∀ (kV doc pm : Value) (an : Option Addr) (cdv ct : Value) (us : List Value), us.length = ps.length → bindArgs (PySem.W.fnOf x qual (defArgs st) (defBody st) (defScope st) .none kV doc pm an cdv ct) ⟨us, []⟩ = pure (ps.zip us))
    (ok : ∀ fd, Fun K x qual st f fd → FnOk P w K mg base CX0 k f fd ps sp) : MthOk P w K mg base Cc x k ps sp := by
  obtain ⟨⟨fd, F⟩, n⟩ := D
  exact ⟨f, fd, ⟨a, n, F.kp⟩, ok fd F, F.binds hb⟩
theorem ini_mk {P : Program} {w : World} {K : PySem.W.Frag} {mg : Str → Option Value} {base : Heap} {f : Addr} {x qual : Str} {st : Stmt} {ps : List Str} {sp : Sp} (D : MIn K x qual st f)
    (hb : ∀ (kV doc pm : Value) (an : Option Addr) (cdv ct : Value) (us : List Value), us.length = ps.length → bindArgs (PySem.W.fnOf x qual (defArgs st) (defBody st) (defScope st) .none kV doc pm an cdv ct) ⟨us, []⟩ = pure (ps.zip us))
    (ok : ∀ fd, Fun K x qual st f fd → FnOk P w K mg base CX0 1 f fd ps sp) : IniOk P w K mg base f ps sp := by
  obtain ⟨⟨fd, F⟩, n⟩ := D
  exact ⟨fd, ok fd F, F.binds hb⟩
def NaAll (K : PySem.W.Frag) (c : Addr) : List Str → Prop
  | [] => True
  | f :: r => NoAttr K c f ∧ NaAll K c r
theorem NaAll.get {K : PySem.W.Frag} {c : Addr} : ∀ {l : List Str}, NaAll K c l → ∀ f ∈ l, NoAttr K c f
  | _ :: _, h, f, hf => by
    rcases List.mem_cons.mp hf with rfl | z
    · exact h.1
    · exact NaAll.get h.2 f z
/-- a class of steps, as the head gives it -/
structure CK (K : PySem.W.Frag) (n : Str) (c i : Addr) (fl : List Str) (uw so tg to rd wr td wd : Addr) : Prop where
  ns : PySem.W.nsIn K mainGlobals n = some (some (.ref c))
  cls : Cls K c
  na : NaAll K c fl
  mk_ : Mk K c i
  uw_ : PySem.W.findIn K (.ref c) "uses_way" = some (some (.ref uw))
  so_ : PySem.W.findIn K (.ref c) "sources" = some (some (.ref so))
  tg_ : PySem.W.findIn K (.ref c) "targets" = some (some (.ref tg))
  to_ : PySem.W.findIn K (.ref c) "touched" = some (some (.ref to))
  rd_ : PySem.W.findIn K (.ref c) "reads" = some (some (.ref rd))
  wr_ : PySem.W.findIn K (.ref c) "writes" = some (some (.ref wr))
  td_ : PySem.W.findIn K (.ref c) "told" = some (some (.ref td))
  wd_ : PySem.W.findIn K (.ref c) "words" = some (some (.ref wd))
  y1 : PySem.W.findIn K (.ref c) "__class__" = some (some (.builtin "object.__class__"))
  y4 : PySem.W.mroIn K c (.type "object") = some true
  y5 : PySem.W.typeIn K (.ref c) = some (.type "type")
  y6 : PySem.W.isClsIn K c = true
def seven (a b c d e f g : Addr) : Nat → Addr
  | 0 => a
  | 1 => b
  | 2 => c
  | 3 => d
  | 4 => e
  | 5 => f
  | _ => g
theorem lt7 {p : Nat → Prop} (h0 : p 0) (h1 : p 1) (h2 : p 2) (h3 : p 3) (h4 : p 4) (h5 : p 5) (h6 : p 6) : ∀ k, k < 7 → p k := by
  intro k hk
  rcases (by omega : k = 0 ∨ k = 1 ∨ k = 2 ∨ k = 3 ∨ k = 4 ∨ k = 5 ∨ k = 6) with rfl | rfl | rfl | rfl | rfl | rfl | rfl <;> assumption
theorem kit_refl {K : PySem.W.Frag} {c : Addr} : PySem.W.kitOne K (.ref c) (.ref c) = some true := by
  unfold PySem.W.kitOne
  rw [if_pos (by simp)]
theorem kit_sub {K : PySem.W.Frag} {c c' : Addr} {b : Bool} (m : PySem.W.mroIn K c (.ref c') = some b) (t : PySem.W.typeIn K (.ref c') = some (.type "type")) (i : PySem.W.isClsIn K c' = true) : PySem.W.kitCls K (.ref c) (.ref c') = some b := by
  unfold PySem.W.kitCls
  dsimp only
  have i' : (PySem.W.clsIn K c').isSome = true := i
  rw [if_pos (by rw [i', t]; rfl)]
  exact m
theorem kit_of {K : PySem.W.Frag} {c c' : Addr} (m : PySem.W.mroIn K c (.ref c') = some false) (n : (c == c') = false) (t : PySem.W.typeIn K (.ref c') = some (.type "type")) (i : PySem.W.isClsIn K c' = true) : PySem.W.kitOne K (.ref c) (.ref c') = some false := by
  unfold PySem.W.kitOne
  rw [if_neg (by
    intro e
    have e2 : Value.ref c = Value.ref c' := beq_iff_eq.mp e
    injection e2 with e3
    rw [e3] at n
    simp at n)]
  exact kit_sub m t i
theorem kit_ofT {K : PySem.W.Frag} {c c' : Addr} (m : PySem.W.mroIn K c (.ref c') = some true) (t : PySem.W.typeIn K (.ref c') = some (.type "type")) (i : PySem.W.isClsIn K c' = true) : PySem.W.kitOne K (.ref c) (.ref c') = some true := by
  unfold PySem.W.kitOne
  by_cases e : (Value.ref c == Value.ref c') = true
  · rw [if_pos e]
  · rw [if_neg e]
    exact kit_sub m t i
set_option maxHeartbeats 8000000 in
theorem all_mk {l : PySem.W.OpenLaw} {w : World} {K : PySem.W.Frag} {h : Heap} {mg : Str → Option Value} {fa aO c0 c1 c2 c3 c4 c5 c6 i0 i1 i2 i3 i4 i5 i6 tS t0 t1 t2 t3 oS o2 o4 o5 o3 o6 uS u3 fT fR fW cS q0 q1 q2 q3 q4 q5 q6 v0 v1 v2 v3 v4 v5 v6 f0 f1 f2 f3 f4 f5 f6 f7 f8 f9 f10 f11 f12 f13 f14 f15 f16 f17 f18 f19 f20 f21 f22 f23 f24 f25 f26 f27 f28 e1 e2 e3 e4 e5 e6 e7 e8 e9 : Addr} {k1 k2 k3 k4 : Tok} (X : K.In h) (G : h.Ns mainGlobals mg) (hfa : mg "law" = some (.ref fa))
    (d0 : DefIn K "is_whole" sWhole f0)
    (d1 : DefIn K "is_within" sWithin f1)
    (d2 : DefIn K "ops_told" sOps f2)
    (d3 : DefIn K "is_headed" sHeaded f3)
    (d4 : DefIn K "is_inner" sInner f4)
    (d5 : DefIn K "is_field" sField f5)
    (d6 : DefIn K "is_sel" sSel f6)
    (d7 : DefIn K "is_source" sSource f7)
    (d8 : DefIn K "is_step" sIsStep f8)
    (d9 : DefIn K "step_of" sStepOf f9)
    (d10 : DefIn K "source_words" sSoW f10)
    (d11 : DefIn K "place_words" sPlW f11)
    (d12 : DefIn K "mark_words" sMaW f12)
    (d13 : DefIn K "_law_cell" sCell f13)
    (d14 : DefIn K "_law_stream" sStream f14)
    (d15 : DefIn K "_law_take" sTake f15)
    (d16 : DefIn K "_law_sel" sLSel f16)
    (d17 : DefIn K "_law_source" sLSource f17)
    (d18 : DefIn K "_law_step" sLStep f18)
    (d19 : DefIn K "_law_part_text" sPartT f19)
    (d20 : DefIn K "_law_step_text" sStepT f20)
    (d21 : DefIn K "_law_reads" sLReads f21)
    (d22 : DefIn K "_law_writes" sLWrites f22)
    (d23 : DefIn K "_law_sorts" sLSorts f23)
    (d24 : DefIn K "_law_by_class" sByClass f24)
    (d25 : DefIn K "_law_fields" sLFields f25)
    (d26 : DefIn K "_law_is_list" sIsList f26)
    (d27 : DefIn K "_law_right" sLRight f27)
    (d28 : DefIn K "law" sLaw f28)
    (C0 : CK K "Get" c0 i0 ["to", "sel"] uS oS t0 fT fR fW q0 v0) (I0 : MIn K "__init__" "Get.__init__" sI0 i0) (Q0 : MIn K "told" "Get.told" sTo0 q0) (V0 : MIn K "words" "Get.words" sWo0 v0)
    (C1 : CK K "Ask" c1 i1 ["to", "sel"] uS oS t1 fT fR fW q1 v1) (I1 : MIn K "__init__" "Ask.__init__" sI1 i1) (Q1 : MIn K "told" "Ask.told" sTo1 q1) (V1 : MIn K "words" "Ask.words" sWo1 v1)
    (C2 : CK K "Cell" c2 i2 ["to", "source"] uS o2 t2 fT fR fW q2 v2) (I2 : MIn K "__init__" "Cell.__init__" sI2 i2) (Q2 : MIn K "told" "Cell.told" sTo2 q2) (V2 : MIn K "words" "Cell.words" sWo2 v2)
    (C3 : CK K "Two" c3 i3 ["to", "op", "one", "other"] u3 o3 t3 fT fR fW q3 v3) (I3 : MIn K "__init__" "Two.__init__" sI3 i3) (Q3 : MIn K "told" "Two.told" sTo3 q3) (V3 : MIn K "words" "Two.words" sWo3 v3)
    (C4 : CK K "Put" c4 i4 ["sel", "source"] uS o4 tS fT fR fW q4 v4) (I4 : MIn K "__init__" "Put.__init__" sI4 i4) (Q4 : MIn K "told" "Put.told" sTo4 q4) (V4 : MIn K "words" "Put.words" sWo4 v4)
    (C5 : CK K "Tell" c5 i5 ["sel", "source"] uS o5 tS fT fR fW q5 v5) (I5 : MIn K "__init__" "Tell.__init__" sI5 i5) (Q5 : MIn K "told" "Tell.told" sTo5 q5) (V5 : MIn K "words" "Tell.words" sWo5 v5)
    (C6 : CK K "Store" c6 i6 ["at", "source"] uS o6 tS fT fR fW q6 v6) (I6 : MIn K "__init__" "Store.__init__" sI6 i6) (Q6 : MIn K "told" "Store.told" sTo6 q6) (V6 : MIn K "words" "Store.words" sWo6 v6)
    (mtS : MIn K "targets" "Step.targets" sTgS tS)
    (mt0 : MIn K "targets" "Get.targets" sTg0 t0)
    (mt1 : MIn K "targets" "Ask.targets" sTg1 t1)
    (mt2 : MIn K "targets" "Cell.targets" sTg2 t2)
    (mt3 : MIn K "targets" "Two.targets" sTg3 t3)
    (moS : MIn K "sources" "Step.sources" sSoS oS)
    (mo2 : MIn K "sources" "Cell.sources" sSo2 o2)
    (mo4 : MIn K "sources" "Put.sources" sSo4 o4)
    (mo5 : MIn K "sources" "Tell.sources" sSo5 o5)
    (mo3 : MIn K "sources" "Two.sources" sSo3 o3)
    (mo6 : MIn K "sources" "Store.sources" sSo6 o6)
    (muS : MIn K "uses_way" "Step.uses_way" sUwS uS)
    (mu3 : MIn K "uses_way" "Two.uses_way" sUw3 u3)
    (mT : MIn K "touched" "Step.touched" sTouched fT) (mR : MIn K "reads" "Step.reads" sReads fR) (mW : MIn K "writes" "Step.writes" sWrites fW)
    (n1 : PySem.W.nsIn K mainGlobals "HIGHEST_INNER" = some (some (.int 7 k1))) (n2 : PySem.W.nsIn K mainGlobals "HIGHEST_WORD" = some (some (.int 16777215 k2))) (n3 : PySem.W.nsIn K mainGlobals "HIGHEST_FIELD" = some (some (.int 2 k3))) (n4 : PySem.W.nsIn K mainGlobals "HIGHEST_SELECTED" = some (some (.int 3 k4)))
    (aOps : PySem.W.nsIn K mainGlobals "OPS" = some (some (.ref aO))) (dO : TopDict w K aO [("+", .ref e1), ("-", .ref e2), ("&", .ref e3), ("|", .ref e4), ("^", .ref e5), ("<<", .ref e6), (">>", .ref e7), ("<", .ref e8), ("=", .ref e9)]) (lo : (aO == sysModules) = false)
    (nS : PySem.W.nsIn K mainGlobals "Step" = some (some (.ref cS))) (y2 : PySem.W.specialIn K (.builtin "object.__class__") "__get__" = some (some (.builtin "getset_descriptor.__get__"))) (y3 : PySem.W.takesIn K (.builtin "object.__class__") = some true) (yS5 : PySem.W.typeIn K (.ref cS) = some (.type "type")) (yS6 : PySem.W.isClsIn K cS = true)
    (j01 : PySem.W.mroIn K c0 (.ref c1) = some false) (n01 : (c0 == c1) = false)    (j02 : PySem.W.mroIn K c0 (.ref c2) = some false) (n02 : (c0 == c2) = false)    (j03 : PySem.W.mroIn K c0 (.ref c3) = some false) (n03 : (c0 == c3) = false)    (j04 : PySem.W.mroIn K c0 (.ref c4) = some false) (n04 : (c0 == c4) = false)    (j05 : PySem.W.mroIn K c0 (.ref c5) = some false) (n05 : (c0 == c5) = false)    (j06 : PySem.W.mroIn K c0 (.ref c6) = some false) (n06 : (c0 == c6) = false) (j0S : PySem.W.mroIn K c0 (.ref cS) = some true)
    (j10 : PySem.W.mroIn K c1 (.ref c0) = some false) (n10 : (c1 == c0) = false)    (j12 : PySem.W.mroIn K c1 (.ref c2) = some false) (n12 : (c1 == c2) = false)    (j13 : PySem.W.mroIn K c1 (.ref c3) = some false) (n13 : (c1 == c3) = false)    (j14 : PySem.W.mroIn K c1 (.ref c4) = some false) (n14 : (c1 == c4) = false)    (j15 : PySem.W.mroIn K c1 (.ref c5) = some false) (n15 : (c1 == c5) = false)    (j16 : PySem.W.mroIn K c1 (.ref c6) = some false) (n16 : (c1 == c6) = false) (j1S : PySem.W.mroIn K c1 (.ref cS) = some true)
    (j20 : PySem.W.mroIn K c2 (.ref c0) = some false) (n20 : (c2 == c0) = false)    (j21 : PySem.W.mroIn K c2 (.ref c1) = some false) (n21 : (c2 == c1) = false)    (j23 : PySem.W.mroIn K c2 (.ref c3) = some false) (n23 : (c2 == c3) = false)    (j24 : PySem.W.mroIn K c2 (.ref c4) = some false) (n24 : (c2 == c4) = false)    (j25 : PySem.W.mroIn K c2 (.ref c5) = some false) (n25 : (c2 == c5) = false)    (j26 : PySem.W.mroIn K c2 (.ref c6) = some false) (n26 : (c2 == c6) = false) (j2S : PySem.W.mroIn K c2 (.ref cS) = some true)
    (j30 : PySem.W.mroIn K c3 (.ref c0) = some false) (n30 : (c3 == c0) = false)    (j31 : PySem.W.mroIn K c3 (.ref c1) = some false) (n31 : (c3 == c1) = false)    (j32 : PySem.W.mroIn K c3 (.ref c2) = some false) (n32 : (c3 == c2) = false)    (j34 : PySem.W.mroIn K c3 (.ref c4) = some false) (n34 : (c3 == c4) = false)    (j35 : PySem.W.mroIn K c3 (.ref c5) = some false) (n35 : (c3 == c5) = false)    (j36 : PySem.W.mroIn K c3 (.ref c6) = some false) (n36 : (c3 == c6) = false) (j3S : PySem.W.mroIn K c3 (.ref cS) = some true)
    (j40 : PySem.W.mroIn K c4 (.ref c0) = some false) (n40 : (c4 == c0) = false)    (j41 : PySem.W.mroIn K c4 (.ref c1) = some false) (n41 : (c4 == c1) = false)    (j42 : PySem.W.mroIn K c4 (.ref c2) = some false) (n42 : (c4 == c2) = false)    (j43 : PySem.W.mroIn K c4 (.ref c3) = some false) (n43 : (c4 == c3) = false)    (j45 : PySem.W.mroIn K c4 (.ref c5) = some false) (n45 : (c4 == c5) = false)    (j46 : PySem.W.mroIn K c4 (.ref c6) = some false) (n46 : (c4 == c6) = false) (j4S : PySem.W.mroIn K c4 (.ref cS) = some true)
    (j50 : PySem.W.mroIn K c5 (.ref c0) = some false) (n50 : (c5 == c0) = false)    (j51 : PySem.W.mroIn K c5 (.ref c1) = some false) (n51 : (c5 == c1) = false)    (j52 : PySem.W.mroIn K c5 (.ref c2) = some false) (n52 : (c5 == c2) = false)    (j53 : PySem.W.mroIn K c5 (.ref c3) = some false) (n53 : (c5 == c3) = false)    (j54 : PySem.W.mroIn K c5 (.ref c4) = some false) (n54 : (c5 == c4) = false)    (j56 : PySem.W.mroIn K c5 (.ref c6) = some false) (n56 : (c5 == c6) = false) (j5S : PySem.W.mroIn K c5 (.ref cS) = some true)
    (j60 : PySem.W.mroIn K c6 (.ref c0) = some false) (n60 : (c6 == c0) = false)    (j61 : PySem.W.mroIn K c6 (.ref c1) = some false) (n61 : (c6 == c1) = false)    (j62 : PySem.W.mroIn K c6 (.ref c2) = some false) (n62 : (c6 == c2) = false)    (j63 : PySem.W.mroIn K c6 (.ref c3) = some false) (n63 : (c6 == c3) = false)    (j64 : PySem.W.mroIn K c6 (.ref c4) = some false) (n64 : (c6 == c4) = false)    (j65 : PySem.W.mroIn K c6 (.ref c5) = some false) (n65 : (c6 == c5) = false) (j6S : PySem.W.mroIn K c6 (.ref cS) = some true)
    (z1 : PySem.W.nsIn K mainGlobals "len" = some none)
    (z2 : PySem.W.nsIn K mainGlobals "int" = some none)
    (z3 : PySem.W.nsIn K mainGlobals "max" = some none)
    (z4 : PySem.W.nsIn K mainGlobals "min" = some none)
    (z5 : PySem.W.nsIn K mainGlobals "range" = some none)
    (z6 : PySem.W.nsIn K mainGlobals "isinstance" = some none)
    (z7 : PySem.W.nsIn K mainGlobals "list" = some none)
    (z8 : PySem.W.nsIn K mainGlobals "str" = some none)
    (z9 : PySem.W.nsIn K mainGlobals "bool" = some none)
    (z10 : PySem.W.nsIn K mainGlobals "tuple" = some none)
    (z11 : PySem.W.nsIn K mainGlobals "all" = some none)
    (z12 : PySem.W.nsIn K mainGlobals "sorted" = some none)
    (z13 : PySem.W.nsIn K mainGlobals "set" = some none)
    (z14 : PySem.W.nsIn K mainGlobals "any" = some none)
    (z15 : PySem.W.nsIn K mainGlobals "enumerate" = some none)
    (z16 : PySem.W.nsIn K mainGlobals "reversed" = some none) :
    ∃ fd : FuncData, (∀ (s : Shared) (v : Value), BindsTo s fd ⟨[v], []⟩ [("_law_script", v)]) ∧ ∀ base : Heap, K.In base → base.Ns mainGlobals mg → FnOk l.prog w K mg base CX0 8 fa fd ["_law_script"] (spLaw K) := by
  have B : Bl mg := ⟨PySem.W.mg_none_of X G z1, PySem.W.mg_none_of X G z2, PySem.W.mg_none_of X G z3, PySem.W.mg_none_of X G z4, PySem.W.mg_none_of X G z5, PySem.W.mg_none_of X G z6, PySem.W.mg_none_of X G z7, PySem.W.mg_none_of X G z8, PySem.W.mg_none_of X G z9, PySem.W.mg_none_of X G z10, PySem.W.mg_none_of X G z11⟩
  have B2 : Bl2 mg := ⟨PySem.W.mg_none_of X G z12, PySem.W.mg_none_of X G z13, PySem.W.mg_none_of X G z14, PySem.W.mg_none_of X G z15, PySem.W.mg_none_of X G z16⟩
  have fsv : ∃ fs : Str → V, Cst K mg w aO k1 k2 k3 k4 fs := ⟨fun x => (([("+", .ref e1), ("-", .ref e2), ("&", .ref e3), ("|", .ref e4), ("^", .ref e5), ("<<", .ref e6), (">>", .ref e7), ("<", .ref e8), ("=", .ref e9)] : List (Str × V)).lookup x).getD .non, PySem.W.mg_of X G n1, PySem.W.mg_of X G n2, PySem.W.mg_of X G n3, PySem.W.mg_of X G n4, PySem.W.mg_of X G aOps, dO, lo⟩
  obtain ⟨fs, Z⟩ := fsv
  have T : Ct K mg (seven c0 c1 c2 c3 c4 c5 c6) (seven i0 i1 i2 i3 i4 i5 i6) := ⟨lt7 C0.cls C1.cls C2.cls C3.cls C4.cls C5.cls C6.cls, lt7 C0.na.get C1.na.get C2.na.get C3.na.get C4.na.get C5.na.get C6.na.get, lt7 C0.mk_ C1.mk_ C2.mk_ C3.mk_ C4.mk_ C5.mk_ C6.mk_, lt7 (PySem.W.mg_of X G C0.ns) (PySem.W.mg_of X G C1.ns) (PySem.W.mg_of X G C2.ns) (PySem.W.mg_of X G C3.ns) (PySem.W.mg_of X G C4.ns) (PySem.W.mg_of X G C5.ns) (PySem.W.mg_of X G C6.ns)⟩
  have T2 : Ct2 K (seven c0 c1 c2 c3 c4 c5 c6) cS := ⟨lt7 C0.y1 C1.y1 C2.y1 C3.y1 C4.y1 C5.y1 C6.y1, y2, y3, lt7 C0.y4 C1.y4 C2.y4 C3.y4 C4.y4 C5.y4 C6.y4,
    lt7 (lt7 kit_refl (kit_of j01 n01 C1.y5 C1.y6) (kit_of j02 n02 C2.y5 C2.y6) (kit_of j03 n03 C3.y5 C3.y6) (kit_of j04 n04 C4.y5 C4.y6) (kit_of j05 n05 C5.y5 C5.y6) (kit_of j06 n06 C6.y5 C6.y6))
      (lt7 (kit_of j10 n10 C0.y5 C0.y6) kit_refl (kit_of j12 n12 C2.y5 C2.y6) (kit_of j13 n13 C3.y5 C3.y6) (kit_of j14 n14 C4.y5 C4.y6) (kit_of j15 n15 C5.y5 C5.y6) (kit_of j16 n16 C6.y5 C6.y6))
      (lt7 (kit_of j20 n20 C0.y5 C0.y6) (kit_of j21 n21 C1.y5 C1.y6) kit_refl (kit_of j23 n23 C3.y5 C3.y6) (kit_of j24 n24 C4.y5 C4.y6) (kit_of j25 n25 C5.y5 C5.y6) (kit_of j26 n26 C6.y5 C6.y6))
      (lt7 (kit_of j30 n30 C0.y5 C0.y6) (kit_of j31 n31 C1.y5 C1.y6) (kit_of j32 n32 C2.y5 C2.y6) kit_refl (kit_of j34 n34 C4.y5 C4.y6) (kit_of j35 n35 C5.y5 C5.y6) (kit_of j36 n36 C6.y5 C6.y6))
      (lt7 (kit_of j40 n40 C0.y5 C0.y6) (kit_of j41 n41 C1.y5 C1.y6) (kit_of j42 n42 C2.y5 C2.y6) (kit_of j43 n43 C3.y5 C3.y6) kit_refl (kit_of j45 n45 C5.y5 C5.y6) (kit_of j46 n46 C6.y5 C6.y6))
      (lt7 (kit_of j50 n50 C0.y5 C0.y6) (kit_of j51 n51 C1.y5 C1.y6) (kit_of j52 n52 C2.y5 C2.y6) (kit_of j53 n53 C3.y5 C3.y6) (kit_of j54 n54 C4.y5 C4.y6) kit_refl (kit_of j56 n56 C6.y5 C6.y6))
      (lt7 (kit_of j60 n60 C0.y5 C0.y6) (kit_of j61 n61 C1.y5 C1.y6) (kit_of j62 n62 C2.y5 C2.y6) (kit_of j63 n63 C3.y5 C3.y6) (kit_of j64 n64 C4.y5 C4.y6) (kit_of j65 n65 C5.y5 C5.y6) kit_refl),
    lt7 (kit_ofT j0S yS5 yS6) (kit_ofT j1S yS5 yS6) (kit_ofT j2S yS5 yS6) (kit_ofT j3S yS5 yS6) (kit_ofT j4S yS5 yS6) (kit_ofT j5S yS5 yS6) (kit_ofT j6S yS5 yS6)⟩
  have mgS : mg "Step" = some (.ref cS) := PySem.W.mg_of X G nS
  obtain ⟨a14, fd, F⟩ := d28
  have e := hfa.symm.trans (PySem.W.mg_of X G a14)
  cases e
  obtain ⟨oc, od, kV, doc, pm, an, cdv, ct, osl, rfl, lk, hcd⟩ := id F.ex
  refine ⟨PySem.W.fnOf "law" "law" (defArgs sLaw) (defBody sLaw) (defScope sLaw) .none kV doc pm an cdv ct, fun s v => .of_eq rfl, fun base _ _ => ?_⟩
  have U : Mts l.prog w K mg base (seven c0 c1 c2 c3 c4 c5 c6) := ⟨lt7 ⟨[0, 1, 2, 4, 5, 6], by decide, mth_mk C0.uw_ muS (fun _ _ _ _ _ _ us hl => match us, hl with | [_], _ => rfl) (fun fd F => ok_UwS F T)⟩ ⟨[0, 1, 2, 4, 5, 6], by decide, mth_mk C1.uw_ muS (fun _ _ _ _ _ _ us hl => match us, hl with | [_], _ => rfl) (fun fd F => ok_UwS F T)⟩ ⟨[0, 1, 2, 4, 5, 6], by decide, mth_mk C2.uw_ muS (fun _ _ _ _ _ _ us hl => match us, hl with | [_], _ => rfl) (fun fd F => ok_UwS F T)⟩ ⟨[3], by decide, mth_mk C3.uw_ mu3 (fun _ _ _ _ _ _ us hl => match us, hl with | [_], _ => rfl) (fun fd F => ok_Uw3 F T)⟩ ⟨[0, 1, 2, 4, 5, 6], by decide, mth_mk C4.uw_ muS (fun _ _ _ _ _ _ us hl => match us, hl with | [_], _ => rfl) (fun fd F => ok_UwS F T)⟩ ⟨[0, 1, 2, 4, 5, 6], by decide, mth_mk C5.uw_ muS (fun _ _ _ _ _ _ us hl => match us, hl with | [_], _ => rfl) (fun fd F => ok_UwS F T)⟩ ⟨[0, 1, 2, 4, 5, 6], by decide, mth_mk C6.uw_ muS (fun _ _ _ _ _ _ us hl => match us, hl with | [_], _ => rfl) (fun fd F => ok_UwS F T)⟩,
    lt7 ⟨[0, 1], by decide, mth_mk C0.so_ moS (fun _ _ _ _ _ _ us hl => match us, hl with | [_], _ => rfl) (fun fd F => ok_SoS F T)⟩ ⟨[0, 1], by decide, mth_mk C1.so_ moS (fun _ _ _ _ _ _ us hl => match us, hl with | [_], _ => rfl) (fun fd F => ok_SoS F T)⟩ ⟨[2], by decide, mth_mk C2.so_ mo2 (fun _ _ _ _ _ _ us hl => match us, hl with | [_], _ => rfl) (fun fd F => ok_So2 F T)⟩ ⟨[3], by decide, mth_mk C3.so_ mo3 (fun _ _ _ _ _ _ us hl => match us, hl with | [_], _ => rfl) (fun fd F => ok_So3 F T)⟩ ⟨[4], by decide, mth_mk C4.so_ mo4 (fun _ _ _ _ _ _ us hl => match us, hl with | [_], _ => rfl) (fun fd F => ok_So4 F T)⟩ ⟨[5], by decide, mth_mk C5.so_ mo5 (fun _ _ _ _ _ _ us hl => match us, hl with | [_], _ => rfl) (fun fd F => ok_So5 F T)⟩ ⟨[6], by decide, mth_mk C6.so_ mo6 (fun _ _ _ _ _ _ us hl => match us, hl with | [_], _ => rfl) (fun fd F => ok_So6 F T)⟩,
    lt7 ⟨[0], by decide, mth_mk C0.tg_ mt0 (fun _ _ _ _ _ _ us hl => match us, hl with | [_], _ => rfl) (fun fd F => ok_Tg0 F T)⟩ ⟨[1], by decide, mth_mk C1.tg_ mt1 (fun _ _ _ _ _ _ us hl => match us, hl with | [_], _ => rfl) (fun fd F => ok_Tg1 F T)⟩ ⟨[2], by decide, mth_mk C2.tg_ mt2 (fun _ _ _ _ _ _ us hl => match us, hl with | [_], _ => rfl) (fun fd F => ok_Tg2 F T)⟩ ⟨[3], by decide, mth_mk C3.tg_ mt3 (fun _ _ _ _ _ _ us hl => match us, hl with | [_], _ => rfl) (fun fd F => ok_Tg3 F T)⟩ ⟨[4, 5, 6], by decide, mth_mk C4.tg_ mtS (fun _ _ _ _ _ _ us hl => match us, hl with | [_], _ => rfl) (fun fd F => ok_TgS F T)⟩ ⟨[4, 5, 6], by decide, mth_mk C5.tg_ mtS (fun _ _ _ _ _ _ us hl => match us, hl with | [_], _ => rfl) (fun fd F => ok_TgS F T)⟩ ⟨[4, 5, 6], by decide, mth_mk C6.tg_ mtS (fun _ _ _ _ _ _ us hl => match us, hl with | [_], _ => rfl) (fun fd F => ok_TgS F T)⟩⟩
  have U2 : Mts2 l.prog w K mg base (seven c0 c1 c2 c3 c4 c5 c6) := ⟨U, lt7 (mth_mk C0.to_ mT (fun _ _ _ _ _ _ us hl => match us, hl with | [_, _], _ => rfl) (fun fd F => ok_touched F T B2 U)) (mth_mk C1.to_ mT (fun _ _ _ _ _ _ us hl => match us, hl with | [_, _], _ => rfl) (fun fd F => ok_touched F T B2 U)) (mth_mk C2.to_ mT (fun _ _ _ _ _ _ us hl => match us, hl with | [_, _], _ => rfl) (fun fd F => ok_touched F T B2 U)) (mth_mk C3.to_ mT (fun _ _ _ _ _ _ us hl => match us, hl with | [_, _], _ => rfl) (fun fd F => ok_touched F T B2 U)) (mth_mk C4.to_ mT (fun _ _ _ _ _ _ us hl => match us, hl with | [_, _], _ => rfl) (fun fd F => ok_touched F T B2 U)) (mth_mk C5.to_ mT (fun _ _ _ _ _ _ us hl => match us, hl with | [_, _], _ => rfl) (fun fd F => ok_touched F T B2 U)) (mth_mk C6.to_ mT (fun _ _ _ _ _ _ us hl => match us, hl with | [_, _], _ => rfl) (fun fd F => ok_touched F T B2 U))⟩
  have U3 : Mts3 l.prog w K mg base (seven c0 c1 c2 c3 c4 c5 c6) := ⟨lt7 (mth_mk C0.rd_ mR (fun _ _ _ _ _ _ us hl => match us, hl with | [_], _ => rfl) (fun fd F => ok_reads F T U2)) (mth_mk C1.rd_ mR (fun _ _ _ _ _ _ us hl => match us, hl with | [_], _ => rfl) (fun fd F => ok_reads F T U2)) (mth_mk C2.rd_ mR (fun _ _ _ _ _ _ us hl => match us, hl with | [_], _ => rfl) (fun fd F => ok_reads F T U2)) (mth_mk C3.rd_ mR (fun _ _ _ _ _ _ us hl => match us, hl with | [_], _ => rfl) (fun fd F => ok_reads F T U2)) (mth_mk C4.rd_ mR (fun _ _ _ _ _ _ us hl => match us, hl with | [_], _ => rfl) (fun fd F => ok_reads F T U2)) (mth_mk C5.rd_ mR (fun _ _ _ _ _ _ us hl => match us, hl with | [_], _ => rfl) (fun fd F => ok_reads F T U2)) (mth_mk C6.rd_ mR (fun _ _ _ _ _ _ us hl => match us, hl with | [_], _ => rfl) (fun fd F => ok_reads F T U2)), lt7 (mth_mk C0.wr_ mW (fun _ _ _ _ _ _ us hl => match us, hl with | [_], _ => rfl) (fun fd F => ok_writes F T U2)) (mth_mk C1.wr_ mW (fun _ _ _ _ _ _ us hl => match us, hl with | [_], _ => rfl) (fun fd F => ok_writes F T U2)) (mth_mk C2.wr_ mW (fun _ _ _ _ _ _ us hl => match us, hl with | [_], _ => rfl) (fun fd F => ok_writes F T U2)) (mth_mk C3.wr_ mW (fun _ _ _ _ _ _ us hl => match us, hl with | [_], _ => rfl) (fun fd F => ok_writes F T U2)) (mth_mk C4.wr_ mW (fun _ _ _ _ _ _ us hl => match us, hl with | [_], _ => rfl) (fun fd F => ok_writes F T U2)) (mth_mk C5.wr_ mW (fun _ _ _ _ _ _ us hl => match us, hl with | [_], _ => rfl) (fun fd F => ok_writes F T U2)) (mth_mk C6.wr_ mW (fun _ _ _ _ _ _ us hl => match us, hl with | [_], _ => rfl) (fun fd F => ok_writes F T U2))⟩
  have WH := fn_mk (P := l.prog) (w := w) (base := base) X G d0 (fun _ _ _ _ _ _ us hl => match us, hl with | [_], _ => rfl) (fun fd F => ok_whole F B)
  have WI := fn_mk (P := l.prog) (w := w) (base := base) X G d1 (fun _ _ _ _ _ _ us hl => match us, hl with | [_, _, _], _ => rfl) (fun fd F => ok_within F WH)
  have OP := fn_mk (P := l.prog) (w := w) (base := base) X G d2 (fun _ _ _ _ _ _ us hl => match us, hl with | [], _ => rfl) (fun fd F => ok_ops F B Z)
  have HD := fn_mk (P := l.prog) (w := w) (base := base) X G d3 (fun _ _ _ _ _ _ us hl => match us, hl with | [_, _, _], _ => rfl) (fun fd F => ok_headed F B)
  have IN := fn_mk (P := l.prog) (w := w) (base := base) X G d4 (fun _ _ _ _ _ _ us hl => match us, hl with | [_], _ => rfl) (fun fd F => ok_inner F Z WI)
  have FI := fn_mk (P := l.prog) (w := w) (base := base) X G d5 (fun _ _ _ _ _ _ us hl => match us, hl with | [_], _ => rfl) (fun fd F => ok_field F Z WI)
  have SE := fn_mk (P := l.prog) (w := w) (base := base) X G d6 (fun _ _ _ _ _ _ us hl => match us, hl with | [_], _ => rfl) (fun fd F => ok_sel F Z WI HD FI)
  have SO := fn_mk (P := l.prog) (w := w) (base := base) X G d7 (fun _ _ _ _ _ _ us hl => match us, hl with | [_], _ => rfl) (fun fd F => ok_source F Z WI HD FI IN)
  have IS := fn_mk (P := l.prog) (w := w) (base := base) X G d8 (fun _ _ _ _ _ _ us hl => match us, hl with | [_], _ => rfl) (fun fd F => ok_isStep F HD IN SE SO OP)
  have J0 := ini_mk (P := l.prog) (w := w) (mg := mg) (base := base) I0 (fun _ _ _ _ _ _ us hl => match us, hl with | [_, _, _], _ => rfl) (fun fd F => ok_I0 F T)
  have J1 := ini_mk (P := l.prog) (w := w) (mg := mg) (base := base) I1 (fun _ _ _ _ _ _ us hl => match us, hl with | [_, _, _], _ => rfl) (fun fd F => ok_I1 F T)
  have J2 := ini_mk (P := l.prog) (w := w) (mg := mg) (base := base) I2 (fun _ _ _ _ _ _ us hl => match us, hl with | [_, _, _], _ => rfl) (fun fd F => ok_I2 F T)
  have J3 := ini_mk (P := l.prog) (w := w) (mg := mg) (base := base) I3 (fun _ _ _ _ _ _ us hl => match us, hl with | [_, _, _, _, _], _ => rfl) (fun fd F => ok_I3 F T)
  have J4 := ini_mk (P := l.prog) (w := w) (mg := mg) (base := base) I4 (fun _ _ _ _ _ _ us hl => match us, hl with | [_, _, _], _ => rfl) (fun fd F => ok_I4 F T)
  have J5 := ini_mk (P := l.prog) (w := w) (mg := mg) (base := base) I5 (fun _ _ _ _ _ _ us hl => match us, hl with | [_, _, _], _ => rfl) (fun fd F => ok_I5 F T)
  have J6 := ini_mk (P := l.prog) (w := w) (mg := mg) (base := base) I6 (fun _ _ _ _ _ _ us hl => match us, hl with | [_, _, _], _ => rfl) (fun fd F => ok_I6 F T)
  have SF := fn_mk (P := l.prog) (w := w) (base := base) X G d9 (fun _ _ _ _ _ _ us hl => match us, hl with | [_], _ => rfl) (fun fd F => ok_stepOf F T IS J0 J1 J2 J3 J4 J5 J6)
  have SOW := fn_mk (P := l.prog) (w := w) (base := base) X G d10 (fun _ _ _ _ _ _ us hl => match us, hl with | [_], _ => rfl) (fun fd F => ok_SoW F B)
  have PLW := fn_mk (P := l.prog) (w := w) (base := base) X G d11 (fun _ _ _ _ _ _ us hl => match us, hl with | [_], _ => rfl) (fun fd F => ok_PlW F)
  have MAW := fn_mk (P := l.prog) (w := w) (base := base) X G d12 (fun _ _ _ _ _ _ us hl => match us, hl with | [_], _ => rfl) (fun fd F => ok_MaW F)
  have CL := fn_mk (P := l.prog) (w := w) (base := base) X G d13 (fun _ _ _ _ _ _ us hl => match us, hl with | [_, _], _ => rfl) (fun fd F => ok_cell F B)
  have ST := fn_mk (P := l.prog) (w := w) (base := base) X G d14 (fun _ _ _ _ _ _ us hl => match us, hl with | [_], _ => rfl) (fun fd F => ok_stream F B)
  have TK := fn_mk (P := l.prog) (w := w) (base := base) X G d15 (fun _ _ _ _ _ _ us hl => match us, hl with | [_, _], _ => rfl) (fun fd F => ok_take F)
  have LSE := fn_mk (P := l.prog) (w := w) (base := base) X G d16 (fun _ _ _ _ _ _ us hl => match us, hl with | [_], _ => rfl) (fun fd F => ok_lSel F TK)
  have LSO := fn_mk (P := l.prog) (w := w) (base := base) X G d17 (fun _ _ _ _ _ _ us hl => match us, hl with | [_], _ => rfl) (fun fd F => ok_lSource F TK)
  have LST := fn_mk (P := l.prog) (w := w) (base := base) X G d18 (fun _ _ _ _ _ _ us hl => match us, hl with | [_], _ => rfl) (fun fd F => ok_lStep F TK LSO LSE)
  have PT := fn_mk (P := l.prog) (w := w) (base := base) X G d19 (fun _ _ _ _ _ _ us hl => match us, hl with | [_, _], _ => rfl) (fun fd F => ok_partT F B)
  have STT := fn_mk (P := l.prog) (w := w) (base := base) X G d20 (fun _ _ _ _ _ _ us hl => match us, hl with | [_], _ => rfl) (fun fd F => ok_stepT F B PT)
  have LR := fn_mk (P := l.prog) (w := w) (base := base) X G d21 (fun _ _ _ _ _ _ us hl => match us, hl with | [_], _ => rfl) (fun fd F => ok_lReads F B B2)
  have LW := fn_mk (P := l.prog) (w := w) (base := base) X G d22 (fun _ _ _ _ _ _ us hl => match us, hl with | [_], _ => rfl) (fun fd F => ok_lWrites F B)
  have SR := fn_mk (P := l.prog) (w := w) (base := base) X G d23 (fun _ _ _ _ _ _ us hl => match us, hl with | [_], _ => rfl) (fun fd F => ok_lSorts F B T T2)
  have BC := fn_mk (P := l.prog) (w := w) (base := base) X G d24 (fun _ _ _ _ _ _ us hl => match us, hl with | [_], _ => rfl) (fun fd F => ok_byClass F T J0 J1 J2 J3 J4 J5 J6)
  have FI2 := fn_mk (P := l.prog) (w := w) (base := base) X G d25 (fun _ _ _ _ _ _ us hl => match us, hl with | [_, _], _ => rfl) (fun fd F => ok_lFields F T)
  have IL := fn_mk (P := l.prog) (w := w) (base := base) X G d26 (fun _ _ _ _ _ _ us hl => match us, hl with | [_, _], _ => rfl) (fun fd F => ok_isList F B)
  have U4 : Mts4 l.prog w K mg base (seven c0 c1 c2 c3 c4 c5 c6) := ⟨lt7 (mth_mk C0.td_ Q0 (fun _ _ _ _ _ _ us hl => match us, hl with | [_], _ => rfl) (fun fd F => ok_To0 F T)) (mth_mk C1.td_ Q1 (fun _ _ _ _ _ _ us hl => match us, hl with | [_], _ => rfl) (fun fd F => ok_To1 F T)) (mth_mk C2.td_ Q2 (fun _ _ _ _ _ _ us hl => match us, hl with | [_], _ => rfl) (fun fd F => ok_To2 F T)) (mth_mk C3.td_ Q3 (fun _ _ _ _ _ _ us hl => match us, hl with | [_], _ => rfl) (fun fd F => ok_To3 F T)) (mth_mk C4.td_ Q4 (fun _ _ _ _ _ _ us hl => match us, hl with | [_], _ => rfl) (fun fd F => ok_To4 F T)) (mth_mk C5.td_ Q5 (fun _ _ _ _ _ _ us hl => match us, hl with | [_], _ => rfl) (fun fd F => ok_To5 F T)) (mth_mk C6.td_ Q6 (fun _ _ _ _ _ _ us hl => match us, hl with | [_], _ => rfl) (fun fd F => ok_To6 F T)), lt7 (mth_mk C0.wd_ V0 (fun _ _ _ _ _ _ us hl => match us, hl with | [_], _ => rfl) (fun fd F => ok_Wo0 F T SOW PLW MAW)) (mth_mk C1.wd_ V1 (fun _ _ _ _ _ _ us hl => match us, hl with | [_], _ => rfl) (fun fd F => ok_Wo1 F T SOW PLW MAW)) (mth_mk C2.wd_ V2 (fun _ _ _ _ _ _ us hl => match us, hl with | [_], _ => rfl) (fun fd F => ok_Wo2 F T SOW PLW MAW)) (mth_mk C3.wd_ V3 (fun _ _ _ _ _ _ us hl => match us, hl with | [_], _ => rfl) (fun fd F => ok_Wo3 F T SOW PLW MAW)) (mth_mk C4.wd_ V4 (fun _ _ _ _ _ _ us hl => match us, hl with | [_], _ => rfl) (fun fd F => ok_Wo4 F T SOW PLW MAW)) (mth_mk C5.wd_ V5 (fun _ _ _ _ _ _ us hl => match us, hl with | [_], _ => rfl) (fun fd F => ok_Wo5 F T SOW PLW MAW)) (mth_mk C6.wd_ V6 (fun _ _ _ _ _ _ us hl => match us, hl with | [_], _ => rfl) (fun fd F => ok_Wo6 F T SOW PLW MAW))⟩
  have RI := fn_mk (P := l.prog) (w := w) (base := base) X G d27 (fun _ _ _ _ _ _ us hl => match us, hl with | [_, _], _ => rfl) (fun fd F => ok_lRight F B T T2 mgS U3 U4 SR STT FI2 IL LW LR)
  exact ok_law F B CL ST LST SF BC RI
end L3

set_option Elab.async false
set_option linter.all false
set_option maxRecDepth 100000
namespace L3
open PySem L2
theorem top_mk {w : World} {K : PySem.W.Frag} {a f1 f2 f3 f4 f5 f6 f7 f8 f9 : Addr} {t1 t2 t3 t4 t5 t6 t7 t8 t9 : Tok} {ep : Nat}
    (h : K.lookup a = some { cls := .type "dict", data := .dict #[⟨PyData.keyHash w.params "+", .str "+" t1, .ref f1⟩, ⟨PyData.keyHash w.params "-", .str "-" t2, .ref f2⟩, ⟨PyData.keyHash w.params "&", .str "&" t3, .ref f3⟩, ⟨PyData.keyHash w.params "|", .str "|" t4, .ref f4⟩, ⟨PyData.keyHash w.params "^", .str "^" t5, .ref f5⟩,
      ⟨PyData.keyHash w.params "<<", .str "<<" t6, .ref f6⟩, ⟨PyData.keyHash w.params ">>", .str ">>" t7, .ref f7⟩, ⟨PyData.keyHash w.params "<", .str "<" t8, .ref f8⟩, ⟨PyData.keyHash w.params "=", .str "=" t9, .ref f9⟩] ep }) :
    TopDict w K a [("+", .ref f1), ("-", .ref f2), ("&", .ref f3), ("|", .ref f4), ("^", .ref f5), ("<<", .ref f6), (">>", .ref f7), ("<", .ref f8), ("=", .ref f9)] :=
  ⟨_, ep, h, .cons ⟨rfl, ⟨_, rfl⟩, rfl⟩ (.cons ⟨rfl, ⟨_, rfl⟩, rfl⟩ (.cons ⟨rfl, ⟨_, rfl⟩, rfl⟩ (.cons ⟨rfl, ⟨_, rfl⟩, rfl⟩ (.cons ⟨rfl, ⟨_, rfl⟩, rfl⟩ (.cons ⟨rfl, ⟨_, rfl⟩, rfl⟩ (.cons ⟨rfl, ⟨_, rfl⟩, rfl⟩ (.cons ⟨rfl, ⟨_, rfl⟩, rfl⟩ (.cons ⟨rfl, ⟨_, rfl⟩, rfl⟩ .nil))))))))⟩
theorem ck_mk {K : PySem.W.Frag} {n : Str} {c i : Addr} {fl : List Str} {uw so tg to rd wr td wd : Addr} (ns : PySem.W.nsIn K mainGlobals n = some (some (.ref c))) (g1 : PySem.W.plainGet K c Str.empty = true) (g2 : PySem.W.hasDictIn K c = true) (g3 : PySem.W.plainOver K c = true)
    (g4 : PySem.W.findIn K (.ref c) "__setattr__" = some (some (.builtin "object.__setattr__"))) (m1 : PySem.W.makesIn K c = true) (m2 : PySem.W.findIn K (.ref c) "__init__" = some (some (.ref i))) (m3 : PySem.W.isFn K (.ref i) = true) (m4 : PySem.W.keepIn K (.ref c) = true)
    (h1 : PySem.W.findIn K (.ref c) "uses_way" = some (some (.ref uw))) (h2 : PySem.W.findIn K (.ref c) "sources" = some (some (.ref so))) (h3 : PySem.W.findIn K (.ref c) "targets" = some (some (.ref tg))) (h4 : PySem.W.findIn K (.ref c) "touched" = some (some (.ref to))) (h5 : PySem.W.findIn K (.ref c) "reads" = some (some (.ref rd))) (h6 : PySem.W.findIn K (.ref c) "writes" = some (some (.ref wr))) (h7 : PySem.W.findIn K (.ref c) "told" = some (some (.ref td))) (h8 : PySem.W.findIn K (.ref c) "words" = some (some (.ref wd))) (y1 : PySem.W.findIn K (.ref c) "__class__" = some (some (.builtin "object.__class__"))) (y4 : PySem.W.mroIn K c (.type "object") = some true) (y5 : PySem.W.typeIn K (.ref c) = some (.type "type")) (y6 : PySem.W.isClsIn K c = true) (na : NaAll K c fl) : CK K n c i fl uw so tg to rd wr td wd :=
  ⟨ns, ⟨g1, g2, g3, g4⟩, na, ⟨m1, m2, m3, m4⟩, h1, h2, h3, h4, h5, h6, h7, h8, y1, y4, y5, y6⟩
theorem na2 {K : PySem.W.Frag} {c : Addr} {a b : Str} (x : PySem.W.findIn K (.ref c) a = some none) (y : PySem.W.findIn K (.ref c) b = some none) : NaAll K c [a, b] := ⟨x, y, trivial⟩
theorem na4 {K : PySem.W.Frag} {c : Addr} {a b d e : Str} (x : PySem.W.findIn K (.ref c) a = some none) (y : PySem.W.findIn K (.ref c) b = some none) (z : PySem.W.findIn K (.ref c) d = some none) (u : PySem.W.findIn K (.ref c) e = some none) : NaAll K c [a, b, d, e] := ⟨x, y, z, u, trivial⟩
end L3
def PySem.W.Fast.tw13820504606777800803 : Nat := 0
def PySem.W.Fast.tw5946065975712856900 : Nat := 0
def PySem.W.Fast.tw13880841785831537797 : Nat := 0
def PySem.W.Fast.tw12872255402757964005 : Nat := 0
def PySem.W.Fast.tw14375963949982740201 : Nat := 0
def PySem.W.Fast.tw5963348378323878218 : Nat := 0
def PySem.W.Fast.tw15310142667109659053 : Nat := 0
def PySem.W.Fast.tw843997400386598958 : Nat := 0
def PySem.W.Fast.tw14673305308586660047 : Nat := 0
def PySem.W.Fast.tw6958489601052258481 : Nat := 0
def PySem.W.Fast.tw16001234365699157841 : Nat := 0
def PySem.W.Fast.tw18219740764002261267 : Nat := 0
def PySem.W.Fast.tw17712762797792990963 : Nat := 0
def PySem.W.Fast.tw2548404121036504246 : Nat := 0
def PySem.W.Fast.tw18038927398476859801 : Nat := 0
def PySem.W.Fast.tw4769925381061771802 : Nat := 0
def PySem.W.Fast.tw6396714975548754205 : Nat := 0
def PySem.W.Fast.tw1521675579009210141 : Nat := 0
def PySem.W.Fast.tw6284748583484106462 : Nat := 0
local macro_rules | `(tactic| walk_at "def of the top") => `(tactic| (refine' L3.def_mk ?a ?l ?c ?k; (case a => k_is); (case l => k_is); (case c => k_is); (case k => k_is)))
local macro_rules | `(tactic| walk_at "def of a class") => `(tactic| (refine' L3.min_mk ?l ?c ?k ?n; (case l => k_is); (case c => k_is); (case k => k_is); (case n => k_is)))
local macro_rules | `(tactic| walk_at "class of steps") => `(tactic| (refine' L3.ck_mk ?ns ?g1 ?g2 ?g3 ?g4 ?m1 ?m2 ?m3 ?m4 ?h1 ?h2 ?h3 ?h4 ?h5 ?h6 ?h7 ?h8 ?y1 ?y4 ?y5 ?y6 ?na; (case ns => k_is); (case g1 => k_is); (case g2 => k_is); (case g3 => k_is); (case g4 => k_is); (case m1 => k_is); (case m2 => k_is); (case m3 => k_is); (case m4 => k_is); (case h1 => k_is); (case h2 => k_is); (case h3 => k_is); (case h4 => k_is); (case h5 => k_is); (case h6 => k_is); (case h7 => k_is); (case h8 => k_is); (case y1 => k_is); (case y4 => k_is); (case y5 => k_is); (case y6 => k_is); (case na => (first | (refine' L3.na2 ?x ?y; (case x => k_is); (case y => k_is)) | (refine' L3.na4 ?x ?y ?z ?u; (case x => k_is); (case y => k_is); (case z => k_is); (case u => k_is))))))
open PySem PySem.W PyProof.Rows
set_option maxRecDepth 100000 in
set_option maxHeartbeats 0 in
theorem PySem.Challenge.cw_rowsbeneath_k17_steps_told_holds : PySem.Challenge.rw_rowsbeneath_k17_steps_told.Holds := by
  w_on; o_law; k_head; (case hw => w_witness2)
  k_fill
  refine L2.walk_ofK (l := PySem.Challenge.rw_rowsbeneath_k17_steps_told) (n := 63) (k := 8) (x := "_law_script") (CX := L2.CX0) (sp := L3.spLaw) rfl (by decide) rfl ⟨rfl, by decide, by decide⟩ (fun w h Y => PySem.W.kIn_of Y) ?F (fun _ _ a ns hl _ hS => ⟨a, ns, rfl, hS, hl, fun _ => rfl⟩) (fun _ _ _ _ z => z)
  case F =>
    intro w mg fa h KX G hmg
    refine' L3.all_mk KX G hmg ?d0 ?d1 ?d2 ?d3 ?d4 ?d5 ?d6 ?d7 ?d8 ?d9 ?d10 ?d11 ?d12 ?d13 ?d14 ?d15 ?d16 ?d17 ?d18 ?d19 ?d20 ?d21 ?d22 ?d23 ?d24 ?d25 ?d26 ?d27 ?d28 ?C0 ?I0 ?Q0 ?V0 ?C1 ?I1 ?Q1 ?V1 ?C2 ?I2 ?Q2 ?V2 ?C3 ?I3 ?Q3 ?V3 ?C4 ?I4 ?Q4 ?V4 ?C5 ?I5 ?Q5 ?V5 ?C6 ?I6 ?Q6 ?V6 ?mtS ?mt0 ?mt1 ?mt2 ?mt3 ?moS ?mo2 ?mo4 ?mo5 ?mo3 ?mo6 ?muS ?mu3 ?mT ?mR ?mW ?n1 ?n2 ?n3 ?n4 ?aOps ?dO ?lo ?nS ?y2 ?y3 ?yS5 ?yS6 ?j01 ?n01 ?j02 ?n02 ?j03 ?n03 ?j04 ?n04 ?j05 ?n05 ?j06 ?n06 ?j0S ?j10 ?n10 ?j12 ?n12 ?j13 ?n13 ?j14 ?n14 ?j15 ?n15 ?j16 ?n16 ?j1S ?j20 ?n20 ?j21 ?n21 ?j23 ?n23 ?j24 ?n24 ?j25 ?n25 ?j26 ?n26 ?j2S ?j30 ?n30 ?j31 ?n31 ?j32 ?n32 ?j34 ?n34 ?j35 ?n35 ?j36 ?n36 ?j3S ?j40 ?n40 ?j41 ?n41 ?j42 ?n42 ?j43 ?n43 ?j45 ?n45 ?j46 ?n46 ?j4S ?j50 ?n50 ?j51 ?n51 ?j52 ?n52 ?j53 ?n53 ?j54 ?n54 ?j56 ?n56 ?j5S ?j60 ?n60 ?j61 ?n61 ?j62 ?n62 ?j63 ?n63 ?j64 ?n64 ?j65 ?n65 ?j6S ?z1 ?z2 ?z3 ?z4 ?z5 ?z6 ?z7 ?z8 ?z9 ?z10 ?z11 ?z12 ?z13 ?z14 ?z15 ?z16
    (case d0 => walk_at "def of the top")
    (case d1 => walk_at "def of the top")
    (case d2 => walk_at "def of the top")
    (case d3 => walk_at "def of the top")
    (case d4 => walk_at "def of the top")
    (case d5 => walk_at "def of the top")
    (case d6 => walk_at "def of the top")
    (case d7 => walk_at "def of the top")
    (case d8 => walk_at "def of the top")
    (case d9 => walk_at "def of the top")
    (case d10 => walk_at "def of the top")
    (case d11 => walk_at "def of the top")
    (case d12 => walk_at "def of the top")
    (case d13 => walk_at "def of the top")
    (case d14 => walk_at "def of the top")
    (case d15 => walk_at "def of the top")
    (case d16 => walk_at "def of the top")
    (case d17 => walk_at "def of the top")
    (case d18 => walk_at "def of the top")
    (case d19 => walk_at "def of the top")
    (case d20 => walk_at "def of the top")
    (case d21 => walk_at "def of the top")
    (case d22 => walk_at "def of the top")
    (case d23 => walk_at "def of the top")
    (case d24 => walk_at "def of the top")
    (case d25 => walk_at "def of the top")
    (case d26 => walk_at "def of the top")
    (case d27 => walk_at "def of the top")
    (case d28 => walk_at "def of the top")
    (case C0 => walk_at "class of steps")
    (case C1 => walk_at "class of steps")
    (case C2 => walk_at "class of steps")
    (case C3 => walk_at "class of steps")
    (case C4 => walk_at "class of steps")
    (case C5 => walk_at "class of steps")
    (case C6 => walk_at "class of steps")
    (case I0 => walk_at "def of a class")
    (case Q0 => walk_at "def of a class")
    (case V0 => walk_at "def of a class")
    (case I1 => walk_at "def of a class")
    (case Q1 => walk_at "def of a class")
    (case V1 => walk_at "def of a class")
    (case I2 => walk_at "def of a class")
    (case Q2 => walk_at "def of a class")
    (case V2 => walk_at "def of a class")
    (case I3 => walk_at "def of a class")
    (case Q3 => walk_at "def of a class")
    (case V3 => walk_at "def of a class")
    (case I4 => walk_at "def of a class")
    (case Q4 => walk_at "def of a class")
    (case V4 => walk_at "def of a class")
    (case I5 => walk_at "def of a class")
    (case Q5 => walk_at "def of a class")
    (case V5 => walk_at "def of a class")
    (case I6 => walk_at "def of a class")
    (case Q6 => walk_at "def of a class")
    (case V6 => walk_at "def of a class")
    (case mtS => walk_at "def of a class")
    (case mt0 => walk_at "def of a class")
    (case mt1 => walk_at "def of a class")
    (case mt2 => walk_at "def of a class")
    (case mt3 => walk_at "def of a class")
    (case moS => walk_at "def of a class")
    (case mo2 => walk_at "def of a class")
    (case mo4 => walk_at "def of a class")
    (case mo5 => walk_at "def of a class")
    (case mo3 => walk_at "def of a class")
    (case mo6 => walk_at "def of a class")
    (case muS => walk_at "def of a class")
    (case mu3 => walk_at "def of a class")
    (case mT => walk_at "def of a class")
    (case mR => walk_at "def of a class")
    (case mW => walk_at "def of a class")
    (case n1 => k_is)
    (case n2 => k_is)
    (case n3 => k_is)
    (case n4 => k_is)
    (case aOps => k_is)
    (case dO => refine' L3.top_mk ?h; (case h => k_is))
    (case lo => rfl)
    (case nS => k_is)
    (case y2 => k_is)
    (case y3 => k_is)
    (case yS5 => k_is)
    (case yS6 => k_is)
    (case j01 => k_is)
    (case n01 => rfl)
    (case j02 => k_is)
    (case n02 => rfl)
    (case j03 => k_is)
    (case n03 => rfl)
    (case j04 => k_is)
    (case n04 => rfl)
    (case j05 => k_is)
    (case n05 => rfl)
    (case j06 => k_is)
    (case n06 => rfl)
    (case j0S => k_is)
    (case j10 => k_is)
    (case n10 => rfl)
    (case j12 => k_is)
    (case n12 => rfl)
    (case j13 => k_is)
    (case n13 => rfl)
    (case j14 => k_is)
    (case n14 => rfl)
    (case j15 => k_is)
    (case n15 => rfl)
    (case j16 => k_is)
    (case n16 => rfl)
    (case j1S => k_is)
    (case j20 => k_is)
    (case n20 => rfl)
    (case j21 => k_is)
    (case n21 => rfl)
    (case j23 => k_is)
    (case n23 => rfl)
    (case j24 => k_is)
    (case n24 => rfl)
    (case j25 => k_is)
    (case n25 => rfl)
    (case j26 => k_is)
    (case n26 => rfl)
    (case j2S => k_is)
    (case j30 => k_is)
    (case n30 => rfl)
    (case j31 => k_is)
    (case n31 => rfl)
    (case j32 => k_is)
    (case n32 => rfl)
    (case j34 => k_is)
    (case n34 => rfl)
    (case j35 => k_is)
    (case n35 => rfl)
    (case j36 => k_is)
    (case n36 => rfl)
    (case j3S => k_is)
    (case j40 => k_is)
    (case n40 => rfl)
    (case j41 => k_is)
    (case n41 => rfl)
    (case j42 => k_is)
    (case n42 => rfl)
    (case j43 => k_is)
    (case n43 => rfl)
    (case j45 => k_is)
    (case n45 => rfl)
    (case j46 => k_is)
    (case n46 => rfl)
    (case j4S => k_is)
    (case j50 => k_is)
    (case n50 => rfl)
    (case j51 => k_is)
    (case n51 => rfl)
    (case j52 => k_is)
    (case n52 => rfl)
    (case j53 => k_is)
    (case n53 => rfl)
    (case j54 => k_is)
    (case n54 => rfl)
    (case j56 => k_is)
    (case n56 => rfl)
    (case j5S => k_is)
    (case j60 => k_is)
    (case n60 => rfl)
    (case j61 => k_is)
    (case n61 => rfl)
    (case j62 => k_is)
    (case n62 => rfl)
    (case j63 => k_is)
    (case n63 => rfl)
    (case j64 => k_is)
    (case n64 => rfl)
    (case j65 => k_is)
    (case n65 => rfl)
    (case j6S => k_is)
    (case z1 => k_is)
    (case z2 => k_is)
    (case z3 => k_is)
    (case z4 => k_is)
    (case z5 => k_is)
    (case z6 => k_is)
    (case z7 => k_is)
    (case z8 => k_is)
    (case z9 => k_is)
    (case z10 => k_is)
    (case z11 => k_is)
    (case z12 => k_is)
    (case z13 => k_is)
    (case z14 => k_is)
    (case z15 => k_is)
    (case z16 => k_is)
