import PyProof.Rows.All
import Wide.All
import OpenK.AllK
import Wide.FinOn
import Lean
import PyProof.EqAt
import PyProof.EqKinds
import PyProof.TupleCall
import PySem.Challenge.RW_rowsbeneath_k12_programs_written
set_option Elab.async false
set_option linter.all false
set_option maxRecDepth 100000
namespace L2
open PySem PySem.Spec PyProof.Rows
abbrev Key := Sum Int Str
def keyIs : Key → Value → Bool
  | .inl k, v => Value.isInt k v
  | .inr x, v => Value.isStrOf x v
def keyH (w : World) : Key → Int
  | .inl k => hashInt k
  | .inr x => hashStr w x
theorem keyIs_shape : ∀ {k : Key} {v : Value}, keyIs k v = true → (∃ i t, k = Sum.inl i ∧ v = Value.int i t) ∨ (∃ x t, k = Sum.inr x ∧ v = Value.str x t)
  | .inl i, v, h => by
    obtain ⟨t, e⟩ := Value.isInt_shape (k := i) (v := v) h
    exact .inl ⟨i, t, rfl, e⟩
  | .inr x, v, h => by
    obtain ⟨t, e⟩ := Value.isStrOf_shape (x := x) (v := v) h
    exact .inr ⟨x, t, rfl, e⟩
theorem keyIs_int (i : Int) (t : Tok) : keyIs (.inl i) (.int i t) = true := by simp [keyIs, Value.isInt]
theorem keyIs_str (x : Str) (t : Tok) : keyIs (.inr x) (.str x t) = true := by simp [keyIs, Value.isStrOf]
theorem key_ll (a b : Int) : decide ((Sum.inl a : Key) = Sum.inl b) = (a == b) := by
  by_cases e : a = b
  · subst e; simp
  · have h : ¬ (Sum.inl a : Key) = Sum.inl b := fun q => e (Sum.inl.inj q)
    rw [decide_eq_false h]
    exact (beq_eq_false_iff_ne.mpr e).symm
theorem key_rr (a b : Str) : decide ((Sum.inr a : Key) = Sum.inr b) = decide (a = b) := by
  by_cases e : a = b
  · subst e; simp
  · have h : ¬ (Sum.inr a : Key) = Sum.inr b := fun q => e (Sum.inr.inj q)
    rw [decide_eq_false h, decide_eq_false e]
theorem key_lr (a : Int) (b : Str) : decide ((Sum.inl a : Key) = Sum.inr b) = false := decide_eq_false (fun q => nomatch q)
theorem key_rl (a : Str) (b : Int) : decide ((Sum.inr a : Key) = Sum.inl b) = false := decide_eq_false (fun q => nomatch q)
def mixKind (prog : Program) (w : World) : PySem.KeyKind prog w Key where
  is := keyIs
  hash := keyH w
  inj := fun v a b ha hb => by
    rcases keyIs_shape ha with ⟨i, t, rfl, rfl⟩ | ⟨x, t, rfl, rfl⟩
    · rcases keyIs_shape hb with ⟨j, u, rfl, e⟩ | ⟨y, u, rfl, e⟩
      · injection e with e1 _; rw [e1]
      · exact nomatch e
    · rcases keyIs_shape hb with ⟨j, u, rfl, e⟩ | ⟨y, u, rfl, e⟩
      · exact nomatch e
      · injection e with e1 _; rw [e1]
  byValue := fun k v h => by
    rcases keyIs_shape h with ⟨i, t, rfl, rfl⟩ | ⟨x, t, rfl, rfl⟩ <;> rfl
  pyHash := fun hv h => by
    rcases keyIs_shape hv with ⟨i, t, rfl, rfl⟩ | ⟨x, t, rfl, rfl⟩
    · exact wpAny_pyHash_int h
    · exact wpAny_pyHash_str h
  eqBool := fun hu hv h => by
    rcases keyIs_shape hu with ⟨i, t, rfl, rfl⟩ | ⟨x, t, rfl, rfl⟩
    · rcases keyIs_shape hv with ⟨j, u, rfl, rfl⟩ | ⟨y, u, rfl, rfl⟩
      · rw [key_ll] at h; exact wpAny_eqBool_int h
      · rw [key_lr] at h; exact SeqAt.EqAt.int_str i t y u _ _ _ _ h
    · rcases keyIs_shape hv with ⟨j, u, rfl, rfl⟩ | ⟨y, u, rfl, rfl⟩
      · rw [key_rl] at h; exact SeqAt.EqAt.str_int x t j u _ _ _ _ h
      · rw [key_rr] at h; exact wpAny_eqBool_str h
  «strs» := fun k x t v h => by
    rcases keyIs_shape h with ⟨i, u, rfl, e⟩ | ⟨y, u, rfl, e⟩
    · exact nomatch e
    · injection e with e1 _
      subst e1
      cases v <;> rfl
theorem mixKind_int (prog : Program) (w : World) (i : Int) (t : Tok) : (mixKind prog w).is (.inl i) (.int i t) = true := keyIs_int i t
theorem mixKind_str (prog : Program) (w : World) (x : Str) (t : Tok) : (mixKind prog w).is (.inr x) (.str x t) = true := keyIs_str x t
end L2
namespace L2
open PySem PySem.Spec PyProof.Rows
inductive V where
  | non | bl (b : Bool) | int (i : Int) | str (x : Str) | byt (b : Array UInt8) | flt (b : UInt64) | ref (a : Addr) | ty (n : String)
  deriving DecidableEq
def RelV : V → Value → Prop
  | .non, u => u = Value.none
  | .bl b, u => u = Value.bool b
  | .int i, u => ∃ t, u = Value.int i t
  | .str x, u => ∃ t, u = Value.str x t
  | .byt b, u => ∃ t, u = Value.bytes b t
  | .flt b, u => ∃ t, u = Value.float b t
  | .ref a, u => u = Value.ref a
  | .ty n, u => u = Value.type n
abbrev Vals : List V → List Value → Prop := Paired RelV
theorem Vals.length {xs : List V} {us : List Value} (r : Vals xs us) : xs.length = us.length := Paired.length r
theorem Vals.get : ∀ {xs : List V} {us : List Value} {i : Nat} {x : V}, Vals xs us → xs[i]? = some x → ∃ u, us[i]? = some u ∧ RelV x u
  | _, _, _, _, .nil, e => by simp at e
  | _, _, 0, _, .cons r _, e => by simp at e; subst e; exact ⟨_, rfl, r⟩
  | _, _, i + 1, x, .cons _ t, e => by
    obtain ⟨u, h1, h2⟩ := Vals.get (i := i) (x := x) t (by simpa using e)
    exact ⟨u, by simpa using h1, h2⟩
theorem Vals.set {x : V} {u : Value} (r : RelV x u) : ∀ {xs : List V} {us : List Value} (i : Nat), Vals xs us → Vals (xs.set i x) (us.set i u)
  | _, _, _, .nil => .nil
  | _, _, 0, .cons _ t => .cons r t
  | _, _, i + 1, .cons q t => .cons q (Vals.set r i t)
theorem Vals.append : ∀ {xs ys : List V} {us ws : List Value}, Vals xs us → Vals ys ws → Vals (xs ++ ys) (us ++ ws)
  | _, _, _, _, .nil, s => s
  | _, _, _, _, .cons r t, s => .cons r (Vals.append t s)
theorem Vals.take : ∀ {xs : List V} {us : List Value} (n : Nat), Vals xs us → Vals (xs.take n) (us.take n)
  | _, _, 0, _ => .nil
  | _, _, _ + 1, .nil => .nil
  | _, _, n + 1, .cons r t => .cons r (Vals.take n t)
theorem Vals.drop : ∀ {xs : List V} {us : List Value} (n : Nat), Vals xs us → Vals (xs.drop n) (us.drop n)
  | _, _, 0, r => r
  | _, _, _ + 1, .nil => .nil
  | _, _, n + 1, .cons _ t => Vals.drop n t
theorem Vals.none_of : ∀ {xs : List V} {us : List Value} {i : Nat}, Vals xs us → xs[i]? = none → us[i]? = none := fun {xs us i} r e => by
  have h1 := r.length
  have h2 : xs.length ≤ i := List.getElem?_eq_none_iff.mp e
  exact List.getElem?_eq_none_iff.mpr (by omega)
def RelO : Option V → Option Value → Prop
  | some v, some u => RelV v u
  | none, none => True
  | _, _ => False
def KV {κ : Type} : List (κ × V) → List (κ × Value) → Prop := Paired fun (p : κ × V) (q : κ × Value) => p.1 = q.1 ∧ RelV p.2 q.2
def kV : Key → V
  | .inl i => .int i
  | .inr x => .str x
inductive HO where
  /-- a list -/
  | lst (xs : List V)
  /-- a tuple (never changes) -/
  | tup (xs : List V)
  /-- a dict whose keys are ints and texts; one whose keys are tuples of ints and texts (the empty one is both) -/
  | dK (kvs : List (Key × V)) | dT (kvs : List (List Key × V))
  /-- a set of ints: its members, its size -/
  | set (S : Int → Bool) (n : Nat)
  /-- an instance of the class at C, its dict at dx, its attributes -/
  | ins (C dx : Addr) (fs : List (Str × V))
  /-- the dict of the instance at x -/
  | own (x : Addr)
  /-- the dict of an exception -/
  | xd (fs : List (Str × V))
  /-- a bound method, f of x -/
  | met (f x : Addr)
  /-- a range object lo, lo + 1, .. below hi -/
  | rng (lo hi : Int)
  /-- a thing that is known to the object (the script; a dict while a loop walks it): read, never written while it is so -/
  | frz (o : Obj) (u : HO)
  /-- a code object's table -/
  | tbl (ps : Array Value)
  /-- any other thing, by what is true of its one object (a def of one's own: SetO a S n := HO.ext fun h => ..) -/
  | ext (φ : Heap → Prop)
abbrev Hp := Addr → Option HO
def upd (H : Hp) (a : Addr) (o : HO) : Hp := fun b => if b = a then some o else H b
theorem upd_same {H : Hp} {a : Addr} {o : HO} : upd H a o a = some o := by unfold upd; rw [if_pos rfl]
theorem upd_ne {H : Hp} {a b : Addr} {o : HO} (h : b ≠ a) : upd H a o b = H b := by unfold upd; rw [if_neg h]
theorem ne_of {H : Hp} {a b : Addr} {o u : HO} (h : H a = some o) (h' : H b = some u) (d : o ≠ u) : a ≠ b := by
  intro e; subst e; rw [h] at h'; exact d (Option.some.inj h')
theorem ne_of_none {H : Hp} {a b : Addr} {o : HO} (h : H a = some o) (h' : H b = none) : a ≠ b := by
  intro e; subst e; rw [h] at h'; cases h'
def TupP (h : Heap) (a : Addr) (items : Array Value) : Prop := ∃ o, h.get? a = some o ∧ (o.cls, o.dict) = (Value.type "tuple", none) ∧ ∃ n, o.data = Data.seq items n
theorem TupP.up {h : Heap} {a : Addr} {items : Array Value} (p : TupP h a items) : IsTup h a items := let ⟨o, e, c, d⟩ := p; ⟨o, e, (Prod.mk.inj c).1, d⟩
theorem TupP.lt {h : Heap} {a : Addr} {items : Array Value} (p : TupP h a items) : a < h.objs.size := let ⟨_, e, _⟩ := p; Heap.lt_size e
theorem TupP.new (h : Heap) (items : Array Value) : TupP (h.push { cls := .type "tuple", data := .seq items }) h.objs.size items := ⟨_, Heap.get?_push_size _ rfl, rfl, _, rfl⟩
section
variable (P : Program) (w : World)
def ObjOk (H : Hp) (h : Heap) (a : Addr) : HO → Prop
  | .lst xs => xs.length ≤ sizeLine ∧ ∃ (its : List Value) (n : Nat), Vals xs its ∧ h.get? a = some { cls := .type "list", data := .seq its.toArray n }
  | .tup xs => xs.length ≤ sizeLine ∧ ∃ its : List Value, Vals xs its ∧ TupP h a its.toArray
  | .dK kvs => kvs.length ≤ sizeLine ∧ (a == sysModules) = false ∧ ∃ vs, KV kvs vs ∧ h.DictOf (mixKind P w) a vs
  | .dT kvs => kvs.length ≤ sizeLine ∧ (a == sysModules) = false ∧ ∃ xs : List (List Key × Addr × Value),
      Paired (fun (p : List Key × V) (q : List Key × Addr × Value) => p.1 = q.1 ∧ H q.2.1 = some (.tup (p.1.map kV)) ∧ RelV p.2 q.2.2) kvs xs ∧
      ∃ o es ep, h.get? a = some o ∧ o.ExactDict ∧ o.data = .dict es ep ∧ es.toList = xs.map (entryOfKey (tupleKind (mixKind P w))) ∧ (xs.map (·.1)).Nodup
  | .set S n => h.SetOf (intKind P w) a S n
  | .ins C dx fs => H dx = some (.own a) ∧ fs.length ≤ 1000 ∧ dx ≠ a ∧ h.get? a = some (PySem.W.instObj C dx) ∧
      ∃ mA, h.Ns1 dx mA ∧ (∀ f, RelO (fs.lookup f) (mA f)) ∧ PySem.Within mA (fs.map (·.1))
  | .own _ => ∃ o, h.get? a = some o
  | .xd fs => ∃ mA, h.Ns1 a mA ∧ ∀ f, RelO (fs.lookup f) (mA f)
  | .rng lo hi => ∃ t u v, h.get? a = some { cls := .type "range", data := .fields #[.int lo t, .int hi u, .int 1 v] }
  | .frz o u => h.get? a = some o ∧ ObjOk H h a u
  | .tbl ps => h.get? a = some { cls := .none, data := .fields ps }
  | .met f x => h.get? a = some (PySem.W.methodObj (.ref f) (.ref x))
  | .ext φ => φ h ∧ (∃ o, h.get? a = some o) ∧ ∀ h1 h2 : Heap, φ h1 → (∀ o, h1.get? a = some o → h2.get? a = some o) → φ h2
def HOk (H : Hp) (h : Heap) : Prop := ∀ a o, H a = some o → ObjOk P w H h a o
end
section
variable {P : Program} {w : World} {H H' : Hp} {h h' : Heap} {a : Addr} {o : HO}
theorem ObjOk.lt (x : ObjOk P w H h a o) : a < h.objs.size := by
  cases o with
  | lst xs => obtain ⟨_, _, _, _, e⟩ := x; exact Heap.lt_size e
  | tup xs => obtain ⟨_, _, _, p⟩ := x; exact p.lt
  | dK kvs => obtain ⟨_, _, _, _, o, _, _, e, _⟩ := x; exact Heap.lt_size e
  | dT kvs => obtain ⟨_, _, _, _, o, _, _, e, _⟩ := x; exact Heap.lt_size e
  | set S n => obtain ⟨o, _, _, _, e, _⟩ := x; exact Heap.lt_size e
  | ins C dx fs => obtain ⟨_, _, _, e, _⟩ := x; exact Heap.lt_size e
  | own y => obtain ⟨_, e⟩ := x; exact Heap.lt_size e
  | xd fs => obtain ⟨_, ⟨_, _, _, e, _⟩, _⟩ := x; exact Heap.lt_size e
  | rng lo hi => obtain ⟨_, _, _, e⟩ := x; exact Heap.lt_size e
  | frz ob u => obtain ⟨e, _⟩ := x; exact Heap.lt_size e
  | tbl ps => exact Heap.lt_size (show h.get? a = some _ from x)
  | met f y => exact Heap.lt_size (show h.get? a = some _ from x)
  | ext φ => obtain ⟨_, ⟨_, e⟩, _⟩ := x; exact Heap.lt_size e
theorem Paired.mapP {α β : Type} {F G : α → β → Prop} : ∀ {l₁ : List α} {l₂ : List β}, Paired F l₁ l₂ → (∀ a b, F a b → G a b) → Paired G l₁ l₂
  | _, _, .nil, _ => .nil
  | _, _, .cons r t, f => .cons (f _ _ r) (Paired.mapP t f)
theorem ObjOk.stay (x : ObjOk P w H h a o) (k : ∀ b u, (b = a ∨ H b = some (.own a)) → h.get? b = some u → h'.get? b = some u)
    (ho : ∀ b, H b = some (.own a) → H' b = some (.own a)) (ht : ∀ b xs, H b = some (.tup xs) → H' b = some (.tup xs)) : ObjOk P w H' h' a o := by
  induction o with
  | lst xs => obtain ⟨z, its, n, r, e⟩ := x; exact ⟨z, its, n, r, k _ _ (.inl rfl) e⟩
  | tup xs => obtain ⟨z, its, r, ob, e, c⟩ := x; exact ⟨z, its, r, ob, k _ _ (.inl rfl) e, c⟩
  | dK kvs => obtain ⟨z, y, vs, r, ob, es, ep, e, c⟩ := x; exact ⟨z, y, vs, r, ob, es, ep, k _ _ (.inl rfl) e, c⟩
  | dT kvs =>
    obtain ⟨z, y, xs, r, ob, es, ep, e, c⟩ := x
    exact ⟨z, y, xs, Paired.mapP r fun p q z => ⟨z.1, ht _ _ z.2.1, z.2.2⟩, ob, es, ep, k _ _ (.inl rfl) e, c⟩
  | set S n => obtain ⟨ob, es, ep, t, e, c⟩ := x; exact ⟨ob, es, ep, t, k _ _ (.inl rfl) e, c⟩
  | ins C dx fs =>
    obtain ⟨d, z, ne, e, mA, ⟨od, es, ep, e2, c⟩, r⟩ := x
    exact ⟨ho _ d, z, ne, k _ _ (.inl rfl) e, mA, ⟨od, es, ep, k _ _ (.inr d) e2, c⟩, r⟩
  | own y => obtain ⟨ob, e⟩ := x; exact ⟨ob, k _ _ (.inl rfl) e⟩
  | xd fs => obtain ⟨mA, ⟨od, es, ep, e, c⟩, r⟩ := x; exact ⟨mA, ⟨od, es, ep, k _ _ (.inl rfl) e, c⟩, r⟩
  | rng lo hi => obtain ⟨t, u, v, e⟩ := x; exact ⟨t, u, v, k _ _ (.inl rfl) e⟩
  | frz ob u ih => obtain ⟨e, q⟩ := x; exact ⟨k _ _ (.inl rfl) e, ih q⟩
  | tbl ps =>
    have e : h.get? a = some { cls := .none, data := .fields ps } := x
    show h'.get? a = some { cls := .none, data := .fields ps }
    exact k a _ (.inl rfl) e
  | met f y =>
    have e : h.get? a = some (PySem.W.methodObj (.ref f) (.ref y)) := x
    show h'.get? a = some (PySem.W.methodObj (.ref f) (.ref y))
    exact k a _ (.inl rfl) e
  | ext φ => obtain ⟨p, ⟨o, e⟩, st⟩ := x; exact ⟨st _ _ p fun o q => k _ _ (.inl rfl) q, ⟨o, k _ _ (.inl rfl) e⟩, st⟩
theorem HOk.lt (x : HOk P w H h) (e : H a = some o) : a < h.objs.size := (x a o e).lt
theorem HOk.fresh (x : HOk P w H h) (e : h.objs.size ≤ a) : H a = none := by
  cases q : H a with
  | none => rfl
  | some u => exact absurd (Nat.lt_of_lt_of_le (x.lt q) e) (Nat.lt_irrefl _)
theorem HOk.kept (x : HOk P w H h) (k : ∀ b u, h.get? b = some u → h'.get? b = some u) : HOk P w H h' := fun a o e =>
  (x a o e).stay (fun b u _ q => k b u q) (fun _ q => q) fun _ _ q => q
theorem HOk.laid (x : HOk P w H h) (k : ∀ b u, h.get? b = some u → h'.get? b = some u) (hp : h.objs.size ≤ a) (new : ObjOk P w (upd H a o) h' a o) : HOk P w (upd H a o) h' := fun b u e => by
  have hn := x.fresh hp
  by_cases hb : b = a
  · subst hb; rw [upd_same] at e; cases e; exact new
  · rw [upd_ne hb] at e
    exact (x b u e).stay (fun c v _ q => k c v q) (fun c q => by rw [upd_ne (ne_of_none q hn)]; exact q) fun c xs q => by rw [upd_ne (ne_of_none q hn)]; exact q
end
def Rd (H : Hp) (a : Addr) (u : HO) : Prop := H a = some u ∨ ∃ o, H a = some (.frz o u)
theorem Rd.of {H : Hp} {a : Addr} {u : HO} (h : H a = some u) : Rd H a u := .inl h
theorem Rd.ok {P : Program} {w : World} {H : Hp} {h : Heap} {a : Addr} {u : HO} (r : Rd H a u) (x : HOk P w H h) : ObjOk P w H h a u := by
  rcases r with r | ⟨o, r⟩
  · exact x a u r
  · obtain ⟨_, q⟩ := x a _ r
    exact q
def Mut : Option HO → Prop
  | some (.lst _) => True
  | some (.dK _) => True
  | some (.dT _) => True
  | some (.set _ _) => True
  | some (.ins _ _ _) => True
  | some (.ext _) => True
  | _ => False
section
variable {P : Program} {w : World} {H : Hp} {h h' : Heap} {x e : Addr} {o' : HO}
theorem HOk.write (ok : HOk P w H h) (mu : Mut (H x)) (he : e = x ∨ H e = some (.own x)) (k : ∀ b u, b ≠ e → h.get? b = some u → h'.get? b = some u) (heo : ∃ u, h'.get? e = some u)
    (new : ObjOk P w (upd H x o') h' x o') : HOk P w (upd H x o') h' := fun b u q => by
  have nown : ∀ c y, H c = some (.own y) → c ≠ x := fun c y r z => by subst z; rw [r] at mu; exact mu
  have ntup : ∀ c xs, H c = some (.tup xs) → c ≠ x := fun c xs r z => by subst z; rw [r] at mu; exact mu
  by_cases hb : b = x
  · subst hb; rw [upd_same] at q; cases q; exact new
  · rw [upd_ne hb] at q
    by_cases hbe : b = e
    · have q' : H b = some (.own x) := by
        rcases he with z | z
        · exact absurd (hbe.trans z) hb
        · rw [hbe]; exact z
      rw [q] at q'; cases q'
      obtain ⟨v, hv⟩ := heo
      exact ⟨v, by rw [hbe]; exact hv⟩
    · refine (ok b u q).stay (fun c v hc r => k c v ?_ r) (fun c r => by rw [upd_ne (nown c b r)]; exact r) fun c xs r => by rw [upd_ne (ntup c xs r)]; exact r
      rcases hc with rfl | hc
      · exact hbe
      · rintro rfl
        rcases he with z | z
        · exact nown c b hc z
        · rw [hc] at z; cases z; exact hb rfl
end
structure Un (fs ex : List Addr) (H H' : Hp) (h h' : Heap) : Prop where
  keep : ∀ b o, h.get? b = some o → H b = none → b ∉ fs → b ∉ ex → h'.get? b = some o
  slot : ∀ b o, h.get? b = some o → H b = none → b ∈ fs → b ∉ ex → ∃ sl, h'.get? b = some { o with slots := sl }
  free : ∀ b o, h.get? b = some o → H b = none → b ∉ ex → H' b = none
  there : ∀ b o, h.get? b = some o → b ∉ ex → ∃ o', h'.get? b = some o'
  tups : ∀ b xs, H b = some (.tup xs) → H' b = some (.tup xs)
  frzs : ∀ b o u, H b = some (.frz o u) → H' b = some (.frz o u)
  tbls : ∀ b ps, H b = some (.tbl ps) → ∃ more, H' b = some (.tbl (ps ++ more))
section
variable {fs fs' ex ex' : List Addr} {H H1 H2 : Hp} {h h1 h2 h' : Heap} {a x e : Addr} {o : HO}
theorem Un.any (u : Un fs ex H H1 h h1) {b : Addr} {ob : Obj} (q : h.get? b = some ob) (n : H b = none) (hx : b ∉ ex) : ∃ sl, h1.get? b = some { ob with slots := sl } := by
  by_cases hb : b ∈ fs
  · exact u.slot b ob q n hb hx
  · exact ⟨ob.slots, u.keep b ob q n hb hx⟩
theorem Un.trans (a : Un fs ex H H1 h h1) (b : Un fs ex H1 H2 h1 h2) : Un fs ex H H2 h h2 where
  keep := fun c ob q n hc hx => b.keep c ob (a.keep c ob q n hc hx) (a.free c ob q n hx) hc hx
  slot := fun c ob q n hc hx => by
    obtain ⟨sl, e1⟩ := a.slot c ob q n hc hx
    obtain ⟨sl', e2⟩ := b.slot c _ e1 (a.free c ob q n hx) hc hx
    exact ⟨sl', e2⟩
  free := fun c ob q n hx => by
    obtain ⟨o', e1⟩ := a.there c ob q hx
    exact b.free c o' e1 (a.free c ob q n hx) hx
  there := fun c ob q hx => by
    obtain ⟨o', e1⟩ := a.there c ob q hx
    exact b.there c o' e1 hx
  tups := fun c xs q => b.tups c xs (a.tups c xs q)
  frzs := fun c ob xs q => b.frzs c ob xs (a.frzs c ob xs q)
  tbls := fun c ps q => by
    obtain ⟨m1, e1⟩ := a.tbls c ps q
    obtain ⟨m2, e2⟩ := b.tbls c _ e1
    exact ⟨m1 ++ m2, by rw [e2, Array.append_assoc]⟩
theorem Un.kept (k : ∀ b u, h.get? b = some u → h'.get? b = some u) : Un fs ex H H h h' :=
  ⟨fun b ob q _ _ _ => k b ob q, fun b ob q _ _ _ => ⟨ob.slots, k b ob q⟩, fun _ _ _ n _ => n, fun b ob q _ => ⟨ob, k b ob q⟩, fun _ _ q => q, fun _ _ _ q => q, fun _ ps q => ⟨#[], by rw [q]; simp⟩⟩
theorem Un.refl : Un fs ex H H h h := Un.kept fun _ _ q => q
theorem Un.laid (k : ∀ b u, h.get? b = some u → h'.get? b = some u) (hp : h.objs.size ≤ a) (hn : H a = none) : Un fs ex H (upd H a o) h h' where
  keep := fun b u q _ _ _ => k b u q
  slot := fun b u q _ _ _ => ⟨u.slots, k b u q⟩
  free := fun b u q n _ => by rw [upd_ne (Nat.ne_of_lt (Nat.lt_of_lt_of_le (Heap.lt_size q) hp))]; exact n
  there := fun b u q _ => ⟨u, k b u q⟩
  tups := fun b xs q => by rw [upd_ne (ne_of_none q hn)]; exact q
  frzs := fun b u xs q => by rw [upd_ne (ne_of_none q hn)]; exact q
  tbls := fun b ps q => ⟨#[], by rw [upd_ne (ne_of_none q hn), q]; simp⟩
theorem Un.write (mu : Mut (H x)) (he : e = x ∨ H e = some (.own x)) (k : ∀ b u, b ≠ e → h.get? b = some u → h'.get? b = some u) (heo : ∃ u, h'.get? e = some u) : Un fs ex H (upd H x o) h h' := by
  have hx : ∀ b, H b = none → b ≠ x := fun b n z => by subst z; rw [n] at mu; exact mu
  have hb : ∀ b, H b = none → b ≠ e := fun b n z => by
    subst z
    rcases he with r | r
    · exact hx b n r
    · rw [n] at r; cases r
  have hm : ∀ b u, H b = some u → ¬ Mut (some u) → b ≠ x := fun b u q nm z => by subst z; rw [q] at mu; exact nm mu
  refine ⟨fun b u q n _ _ => k b u (hb b n) q, fun b u q n _ _ => ⟨u.slots, k b u (hb b n) q⟩, fun b u q n _ => by rw [upd_ne (hx b n)]; exact n, fun b u q _ => ?_,
    fun b xs q => by rw [upd_ne (hm b _ q fun z => z)]; exact q, fun b u xs q => by rw [upd_ne (hm b _ q fun z => z)]; exact q, fun b ps q => ⟨#[], by rw [upd_ne (hm b _ q fun z => z), q]; simp⟩⟩
  by_cases hbe : b = e
  · subst hbe; exact heo
  · exact ⟨u, k b u hbe q⟩
theorem Un.mono (u : Un fs ex H H1 h h1) (hs : ∀ b ∈ fs, b ∈ fs') (hx : ∀ b ∈ ex, b ∈ ex') : Un fs' ex' H H1 h h1 :=
  ⟨fun b ob q n hb he => u.keep b ob q n (fun z => hb (hs b z)) fun z => he (hx b z), fun _ _ q n _ he => u.any q n fun z => he (hx _ z), fun b ob q n he => u.free b ob q n fun z => he (hx b z), fun b ob q he => u.there b ob q fun z => he (hx b z), u.tups, u.frzs, u.tbls⟩
end
def trk (h : Heap) (H : Hp) : List Addr := (List.range h.objs.size).filter fun a => (H a).isSome
def hidT (h : Heap) (H : Hp) : Heap := PySem.W.hideAll h (trk h H)
theorem hidT_size (h : Heap) (H : Hp) : (hidT h H).objs.size = h.objs.size := PySem.W.hideAll_size _ _
theorem hidT_get {h : Heap} {H : Hp} {b : Addr} {o : Obj} (e : h.get? b = some o) (n : H b = none) : (hidT h H).get? b = some o :=
  PySem.W.hideAll_get _ e fun hm => by
    have q : (H b).isSome = true := (List.mem_filter.mp hm).2
    rw [n] at q; simp at q
theorem of_hidT {h : Heap} {H : Hp} {b : Addr} {o : Obj} (e : (hidT h H).get? b = some o) : h.get? b = some o ∧ H b = none := by
  have e' : h.get? b = some o := PySem.W.of_hideAll (trk h H) e
  refine ⟨e', ?_⟩
  cases q : H b with
  | none => rfl
  | some x =>
    have hm : b ∈ trk h H := List.mem_filter.mpr ⟨List.mem_range.mpr (Heap.lt_size e'), by simp [q]⟩
    have z : (hidT h H).get? b = none := PySem.W.hideAll_none (trk h H) hm
    rw [z] at e; cases e
def allNews (g h : Heap) (L : Addr) : List (Addr × Obj) := (List.range h.objs.size).filterMap fun a => if a = L ∨ (g.get? a).isSome = true then none else (h.get? a).map fun o => (a, o)
def rest (g h : Heap) (L d : Addr) : List (Addr × Obj) := (allNews g h L).filter fun p => decide (p.1 ≠ d)
end L2
namespace L2
open PySem PySem.Spec PyProof.Rows
structure Mod (K : PySem.W.Frag) (mg : Str → Option Value) (base : Heap) : Prop where
  kin : K.In base
  glob : base.Ns mainGlobals mg
  blt : ∃ mb, base.Ns builtinsNs mb ∧ ∀ x : Str, x ≠ "__name__" → mb x = bootBuiltins x
  nolimit : base.NoLimit
structure Cx where
  prog : Program
  w : World
  K : PySem.W.Frag
  mg : Str → Option Value
  base : Heap
  A : Around
  N : List Str
  s₀ : Shared
  H₀ : Hp
  env : Env
  outer : List Env
  stack : List Env
  ex : List Addr
  fn : Str → Bool
  calm : Bool
  pn : List (Addr × Obj)
  xe : Value → Shared → Prop
def frs (l : List Env) : List Addr := l.filterMap (·.frame)
abbrev Cx.fs (X : Cx) : List Addr := frs X.outer
def Vis (sc : Scope) (x : Str) : Prop := sc.names.lookup x = some .local ∨ sc.names.lookup x = some .cell ∨ sc.names.lookup x = some .free
def Loc (sc : Scope) (x : Str) : Prop := sc.names.lookup x = some .local ∨ sc.names.lookup x = some .cell
def Look (env : Env) (h : Heap) (m : Str → Option Value) (x : Str) (u : Value) : Prop :=
  (env.kindOf x = some .local ∧ m x = some u) ∨ ((env.kindOf x = some .cell ∨ env.kindOf x = some .free) ∧ ∃ c, env.cells.lookup x = some c ∧ h.IsCell c (some u))
structure Cx.Ok (X : Cx) : Prop where
  mod : Mod X.K X.mg X.base
  kind : X.env.scope.kind = .function
  glob : X.env.globals = mainGlobals
  blt : X.env.builtins = builtinsNs
  above : X.s₀.heap.objs.size ≤ X.env.locals
  inj : ∀ x y c, X.env.cells.lookup x = some c → X.env.cells.lookup y = some c → x = y
  has : ∀ x, (X.env.kindOf x = some .cell ∨ X.env.kindOf x = some .free) → ∃ c, X.env.cells.lookup x = some c
  cab : ∀ x c, X.fn x = true → X.env.cells.lookup x = some c → X.s₀.heap.objs.size ≤ c
  hd : X.calm = true → X.A.handled = none
  frames : X.A.frames = some X.stack
  stk : X.stack = X.outer ∨ (X.stack = X.env :: X.outer ∧ X.env.frame = some X.env.locals)
  exf : ∀ b ∈ X.ex, b ≠ X.env.locals ∧ ∀ x c, X.env.cells.lookup x = some c → c ≠ b
  bs : ∀ b o, X.base.get? b = some o → X.s₀.heap.get? b = some o ∧ X.H₀ b = none
  bsz : X.base.objs.size ≤ X.s₀.heap.objs.size
  noex : ∀ b o, X.base.get? b = some o → b ∉ X.ex
  exfs : ∀ b ∈ X.ex, b ∉ X.fs
  funs : X.s₀.heap.FunFrames X.base X.outer
  frf : ∀ b ∈ X.fs, X.H₀ b = none
structure Inv (X : Cx) (pins : List (Addr × Obj)) (σ : List (Option V)) (H : Hp) (s : Shared) : Prop where
  ok : X.Ok
  os : s.os = X.s₀.os
  bare : AllBare s.gens
  base : Un X.fs X.ex X.H₀ H X.s₀.heap s.heap
  loc : ∃ m, s.heap.Ns X.env.locals m ∧ ∀ (i : Nat) (x : Str) (v : V), X.N[i]? = some x → σ[i]? = some (some v) → Vis X.env.scope x → ∃ u, RelV v u ∧ Look X.env s.heap m x u
  cell : ∀ x c, X.env.cells.lookup x = some c → ∃ v, s.heap.IsCell c v
  free : H X.env.locals = none
  freeC : ∀ x c, X.env.cells.lookup x = some c → H c = none
  pin : ∀ p ∈ X.pn ++ pins, s.heap.get? p.1 = some p.2 ∧ H p.1 = none ∧ p.1 ≠ X.env.locals ∧ p.1 ∉ X.fs ∧ ∀ v, p.2.data ≠ .cell v
  hok : HOk X.prog X.w H s.heap
  len : σ.length = X.N.length
section
variable {X : Cx} {pins : List (Addr × Obj)} {σ : List (Option V)} {H H' : Hp} {s : Shared} {h' : Heap}
theorem Cx.Ok.nofr (ok : X.Ok) {b : Addr} {o : Obj} (e : X.base.get? b = some o) : b ∉ X.fs := fun hb => by
  have := (ok.funs.mem hb).1
  rw [e] at this; cases this
theorem Inv.bs (I : Inv X pins σ H s) : ∀ b o, X.base.get? b = some o → s.heap.get? b = some o ∧ H b = none := fun b o e =>
  ⟨I.base.keep b o (I.ok.bs b o e).1 (I.ok.bs b o e).2 (I.ok.nofr e) (I.ok.noex b o e), I.base.free b o (I.ok.bs b o e).1 (I.ok.bs b o e).2 (I.ok.noex b o e)⟩
theorem Inv.bk (I : Inv X pins σ H s) : ∀ b o, X.base.get? b = some o → s.heap.get? b = some o := fun b o e => (I.bs b o e).1
theorem Inv.mod (I : Inv X pins σ H s) : Mod X.K X.mg X.base := I.ok.mod
theorem Inv.kIn (I : Inv X pins σ H s) : X.K.In s.heap := I.ok.mod.kin.keeps I.bk
theorem Inv.nolimit (I : Inv X pins σ H s) : s.heap.NoLimit := I.ok.mod.nolimit.keeps I.bk
theorem Inv.lt (I : Inv X pins σ H s) : X.env.locals < s.heap.objs.size := let ⟨_, hn, _⟩ := I.loc; hn.lt
theorem Inv.sz (I : Inv X pins σ H s) : X.s₀.heap.objs.size ≤ s.heap.objs.size := Nat.le_trans I.ok.above (Nat.le_of_lt I.lt)
theorem Inv.nofs (I : Inv X pins σ H s) {a : Addr} (h : s.heap.objs.size ≤ a) : a ∉ X.fs := fun hb => by
  obtain ⟨_, o, ho, _⟩ := I.ok.funs.mem hb
  exact absurd (Nat.lt_of_lt_of_le (Heap.lt_size ho) (Nat.le_trans I.sz h)) (Nat.lt_irrefl _)
theorem Inv.cne (I : Inv X pins σ H s) : ∀ x c, X.env.cells.lookup x = some c → c ≠ X.env.locals := fun x c e z => by
  obtain ⟨v, o, ho, hd⟩ := I.cell x c e
  obtain ⟨m, ⟨o', es, ep, ho', hd', _⟩, _⟩ := I.loc
  rw [z, ho'] at ho; cases ho; rw [hd'] at hd; cases hd
theorem Inv.funs (I : Inv X pins σ H s) : s.heap.FunFrames X.base X.outer := by
  have all : ∀ (l : List Env), (∀ b ∈ frs l, b ∈ X.fs) → X.s₀.heap.FunFrames X.base l → s.heap.FunFrames X.base l := by
    intro l
    induction l with
    | nil => intro _ _; trivial
    | cons env r ih =>
      intro hs hl
      obtain ⟨hk, ⟨L, o, hf, hn, ho, hd⟩, hr⟩ := hl
      have hL : L ∈ X.fs := hs L (by unfold frs; rw [List.filterMap_cons, hf]; exact List.mem_cons_self)
      obtain ⟨sl, e⟩ := I.base.slot L o ho (I.ok.frf L hL) hL fun z => I.ok.exfs L z hL
      exact ⟨hk, ⟨L, _, hf, hn, e, hd⟩, ih (fun b hb => hs b (by unfold frs; rw [List.filterMap_cons, hf]; exact List.mem_cons_of_mem _ hb)) hr⟩
  exact all X.outer (fun _ hb => hb) I.ok.funs
theorem Inv.stack (I : Inv X pins σ H s) : s.heap.FunFrames X.base X.stack := by
  rcases I.ok.stk with e | ⟨e, hf⟩
  · rw [e]; exact I.funs
  · rw [e]
    obtain ⟨m, hn, _⟩ := I.loc
    refine .cons (by rw [I.ok.kind]; decide) hf hn ?_ I.funs
    exact Heap.get?_none_of_le (Nat.le_trans I.ok.bsz I.ok.above)
theorem Inv.stkSub (I : Inv X pins σ H s) : ∀ b ∈ frs X.stack, b ∈ X.env.locals :: X.fs := fun b hb => by
  rcases I.ok.stk with e | ⟨e, hf⟩
  · rw [e] at hb; exact List.mem_cons_of_mem _ hb
  · rw [e] at hb
    unfold frs at hb
    rw [List.filterMap_cons, hf] at hb
    exact hb
theorem Inv.stkFree (I : Inv X pins σ H s) : ∀ b ∈ frs X.stack, H b = none := fun b hb => by
  rcases List.mem_cons.mp (I.stkSub b hb) with e | hb
  · rw [e]; exact I.free
  · obtain ⟨_, o, ho, _⟩ := I.ok.funs.mem hb
    exact I.base.free b o ho (I.ok.frf b hb) fun z => I.ok.exfs b z hb
theorem Inv.step {g' : Array GenState} {t' : Nat} {d' : Drawn} {ch : List Addr} (I : Inv X pins σ H s)
    (hch : ∀ b ∈ ch, (b ∈ X.ex ∨ X.s₀.heap.objs.size ≤ b) ∧ b ≠ X.env.locals ∧ (∀ x c, X.env.cells.lookup x = some c → c ≠ b) ∧ ∀ p ∈ X.pn ++ pins, p.1 ≠ b)
    (keep : ∀ b o, b ≠ X.env.locals → b ∉ X.fs → b ∉ ch → s.heap.get? b = some o → H b = none → h'.get? b = some o)
    (slot : ∀ b o, b ≠ X.env.locals → b ∈ X.fs → b ∉ ch → s.heap.get? b = some o → H b = none → ∃ sl, h'.get? b = some { o with slots := sl }) (free : ∀ b o, b ∉ ch → s.heap.get? b = some o → H b = none → H' b = none)
    (there : ∀ b o, b ∉ ch → s.heap.get? b = some o → ∃ o', h'.get? b = some o')
    (tups : ∀ b xs, H b = some (.tup xs) → H' b = some (.tup xs)) (frzs : ∀ b o u, H b = some (.frz o u) → H' b = some (.frz o u)) (tbls : ∀ b ps, H b = some (.tbl ps) → ∃ more, H' b = some (.tbl (ps ++ more)))
    (ns : ∀ m, s.heap.Ns X.env.locals m → h'.Ns X.env.locals m) (hok : HOk X.prog X.w H' h') (hg : AllBare g') :
    Inv X pins σ H' { s with heap := h', gens := g', drawn := d', toks := t' } := by
  have neL : ∀ b o, X.s₀.heap.get? b = some o → b ≠ X.env.locals := fun b o e => Nat.ne_of_lt (Nat.lt_of_lt_of_le (Heap.lt_size e) I.ok.above)
  have neC : ∀ b o, X.s₀.heap.get? b = some o → b ∉ X.ex → b ∉ ch := fun b o e hx hb => by
    rcases (hch b hb).1 with z | z
    · exact hx z
    · exact absurd (Nat.lt_of_lt_of_le (Heap.lt_size e) z) (Nat.lt_irrefl _)
  have cellK : ∀ x c, X.env.cells.lookup x = some c → ∀ v, s.heap.IsCell c v → h'.IsCell c v := fun x c e v ⟨o, ho, hd⟩ => by
    have nch : c ∉ ch := fun z => (hch c z).2.2.1 x c e rfl
    by_cases hc : c ∈ X.fs
    · obtain ⟨sl, q⟩ := slot c o (I.cne x c e) hc nch ho (I.freeC x c e)
      exact ⟨_, q, hd⟩
    · exact ⟨o, keep c o (I.cne x c e) hc nch ho (I.freeC x c e), hd⟩
  refine ⟨I.ok, I.os, hg, ⟨fun b o e n hb hx => ?_, fun b o e n hb hx => ?_, fun b o e n hx => ?_, fun b o e hx => ?_, fun b xs e => tups b xs (I.base.tups b xs e), fun b o xs e => frzs b o xs (I.base.frzs b o xs e), fun b ps e => ?_⟩, ?_, fun x c e => ?_, ?_, fun x c e => ?_, fun p hp => ?_, hok, I.len⟩
  · exact keep b o (neL b o e) hb (neC b o e hx) (I.base.keep b o e n hb hx) (I.base.free b o e n hx)
  · obtain ⟨sl, e1⟩ := I.base.slot b o e n hb hx
    obtain ⟨sl', e2⟩ := slot b _ (neL b o e) hb (neC b o e hx) e1 (I.base.free b o e n hx)
    exact ⟨sl', e2⟩
  · obtain ⟨o', e1⟩ := I.base.there b o e hx
    exact free b o' (neC b o e hx) e1 (I.base.free b o e n hx)
  · obtain ⟨o', e1⟩ := I.base.there b o e hx
    exact there b o' (neC b o e hx) e1
  · obtain ⟨m1, e1⟩ := I.base.tbls b ps e
    obtain ⟨m2, e2⟩ := tbls b _ e1
    exact ⟨m1 ++ m2, by rw [e2, Array.append_assoc]⟩
  · obtain ⟨m, hn, hl⟩ := I.loc
    refine ⟨m, ns m hn, fun i x v e1 e2 e3 => ?_⟩
    obtain ⟨u, r, l⟩ := hl i x v e1 e2 e3
    refine ⟨u, r, ?_⟩
    rcases l with l | ⟨k, c, e, z⟩
    · exact .inl l
    · exact .inr ⟨k, c, e, cellK x c e _ z⟩
  · obtain ⟨v, z⟩ := I.cell x c e
    exact ⟨v, cellK x c e v z⟩
  · obtain ⟨m, ⟨o, _, _, ho, _⟩, _⟩ := I.loc
    exact free _ o (fun z => (hch _ z).2.1 rfl) ho I.free
  · obtain ⟨v, o, ho, hd⟩ := I.cell x c e
    exact free c o (fun z => (hch c z).2.2.1 x c e rfl) ho (I.freeC x c e)
  · obtain ⟨e, n, ne, nf, d⟩ := I.pin p hp
    have nch : p.1 ∉ ch := fun z => (hch p.1 z).2.2.2 p hp rfl
    exact ⟨keep p.1 p.2 ne nf nch e n, free p.1 p.2 nch e n, ne, nf, d⟩
theorem Inv.un {t' : Nat} (I : Inv X pins σ H s) (u : Un X.fs [] H H' s.heap h') (hok : HOk X.prog X.w H' h') : Inv X pins σ H' { s with heap := h', toks := t' } := by
  obtain ⟨m, ⟨o, es, ep, ho, r⟩, _⟩ := id I.loc
  obtain ⟨sl, hL⟩ := u.any ho I.free (by simp)
  exact I.step (g' := s.gens) (d' := s.drawn) (ch := []) (fun _ z => nomatch z) (fun b o _ hb _ e n => u.keep b o e n hb (by simp)) (fun b o _ hb _ e n => u.slot b o e n hb (by simp)) (fun b o _ e n => u.free b o e n (by simp)) (fun b o _ e => u.there b o e (by simp)) u.tups u.frzs u.tbls (fun m' hm => by
    obtain ⟨o', es', ep', ho', r'⟩ := hm
    rw [ho] at ho'; cases ho'
    exact ⟨_, es', ep', hL, r'⟩) hok I.bare
theorem Inv.call {g' : Array GenState} {t' : Nat} {d' : Drawn} {ch : List Addr} (I : Inv X pins σ H s) (u : Un (frs X.stack) ch H H' s.heap h') (hok : HOk X.prog X.w H' h') (hg : AllBare g')
    (hch : ∀ b ∈ ch, (b ∈ X.ex ∨ X.s₀.heap.objs.size ≤ b) ∧ b ≠ X.env.locals ∧ (∀ x c, X.env.cells.lookup x = some c → c ≠ b) ∧ ∀ p ∈ X.pn ++ pins, p.1 ≠ b) :
    Inv X pins σ H' { s with heap := h', gens := g', drawn := d', toks := t' } := by
  obtain ⟨m, ⟨o, es, ep, ho, r⟩, _⟩ := id I.loc
  obtain ⟨sl, hL⟩ := u.any ho I.free fun z => (hch _ z).2.1 rfl
  exact I.step (ch := ch) hch (fun b o hL hb hc e n => u.keep b o e n (fun z => (List.mem_cons.mp (I.stkSub b z)).elim hL hb) hc) (fun b o _ _ hc e n => u.any e n hc) (fun b o hc e n => u.free b o e n hc) (fun b o hc e => u.there b o e hc) u.tups u.frzs u.tbls (fun m' hm => by
    obtain ⟨o', es', ep', ho', r'⟩ := hm
    rw [ho] at ho'; cases ho'
    exact ⟨_, es', ep', hL, r'⟩) hok hg
theorem Inv.turned {t' : Nat} {it : Addr} (I : Inv X pins σ H s) (k : ∀ b o, b ≠ it → s.heap.get? b = some o → h'.get? b = some o) (hn : H it = none) (hL : it ≠ X.env.locals)
    (h1 : it ∈ X.ex ∨ X.s₀.heap.objs.size ≤ it) (h2 : ∀ x c, X.env.cells.lookup x = some c → c ≠ it) (h3 : ∀ p ∈ X.pn ++ pins, p.1 ≠ it) : Inv X pins σ H { s with heap := h', toks := t' } := by
  have nit : ∀ b u, H b = some u → b ≠ it := fun b u e z => by rw [z, hn] at e; cases e
  refine I.step (g' := s.gens) (d' := s.drawn) (ch := [it]) (fun b hb => ?_) (fun b o _ _ hc e _ => k b o (fun z => hc (by simp [z])) e) (fun b o _ _ hc e _ => ⟨o.slots, k b o (fun z => hc (by simp [z])) e⟩) (fun _ _ _ _ n => n)
    (fun b o hc e => ⟨o, k b o (fun z => hc (by simp [z])) e⟩) (fun _ _ e => e) (fun _ _ _ e => e) (fun b ps e => ⟨#[], by rw [e]; simp⟩) (fun m hm => ?_) (fun b u e => ?_) I.bare
  · have e : b = it := by simpa using hb
    subst e
    exact ⟨h1, hL, h2, h3⟩
  · obtain ⟨o, es, ep, ho, r⟩ := hm
    exact ⟨o, es, ep, k _ o (Ne.symm hL) ho, r⟩
  · refine (I.hok b u e).stay (fun c v hc q => k c v ?_ q) (fun _ q => q) fun _ _ q => q
    rcases hc with z | z
    · rw [z]; exact nit b u e
    · exact nit c _ z
theorem Inv.tok (I : Inv X pins σ H s) (t : Nat) : Inv X pins σ H { s with toks := t } := I.un (h' := s.heap) (t' := t) Un.refl I.hok
theorem Inv.kept {t' : Nat} (I : Inv X pins σ H s) (k : ∀ b u, s.heap.get? b = some u → h'.get? b = some u) : Inv X pins σ H { s with heap := h', toks := t' } := I.un (Un.kept k) (I.hok.kept k)
theorem Inv.laid {a : Addr} {o : HO} {t' : Nat} (I : Inv X pins σ H s) (k : ∀ b u, s.heap.get? b = some u → h'.get? b = some u) (hp : s.heap.objs.size ≤ a) (new : ObjOk X.prog X.w (upd H a o) h' a o) :
    Inv X pins σ (upd H a o) { s with heap := h', toks := t' } := I.un (Un.laid k hp (I.hok.fresh hp)) (I.hok.laid k hp new)
theorem Inv.write {x e : Addr} {o : HO} {t' : Nat} (I : Inv X pins σ H s) (mu : Mut (H x)) (he : e = x ∨ H e = some (.own x)) (k : ∀ b u, b ≠ e → s.heap.get? b = some u → h'.get? b = some u) (heo : ∃ u, h'.get? e = some u)
    (new : ObjOk X.prog X.w (upd H x o) h' x o) : Inv X pins σ (upd H x o) { s with heap := h', toks := t' } := I.un (Un.write mu he k heo) (I.hok.write mu he k heo new)
theorem Inv.weak {σ' : List (Option V)} (I : Inv X pins σ H s) (hl : σ'.length = σ.length) (w : ∀ (i : Nat) v, σ'[i]? = some (some v) → σ[i]? = some (some v)) : Inv X pins σ' H s :=
  ⟨I.ok, I.os, I.bare, I.base, let ⟨m, hn, hl'⟩ := I.loc; ⟨m, hn, fun i x v e1 e2 e3 => hl' i x v e1 (w i v e2) e3⟩, I.cell, I.free, I.freeC, I.pin, I.hok, hl.trans I.len⟩
theorem Inv.pins_of {pins' : List (Addr × Obj)} (I : Inv X pins σ H s) (h : ∀ p ∈ pins', s.heap.get? p.1 = some p.2 ∧ H p.1 = none ∧ p.1 ≠ X.env.locals ∧ p.1 ∉ X.fs ∧ ∀ v, p.2.data ≠ .cell v) : Inv X pins' σ H s :=
  ⟨I.ok, I.os, I.bare, I.base, I.loc, I.cell, I.free, I.freeC, fun p hp => (List.mem_append.mp hp).elim (fun z => I.pin p (List.mem_append_left _ z)) (h p), I.hok, I.len⟩
theorem nodup_ix {N : List Str} (hN : N.Nodup) {i j : Nat} {x : Str} (a : N[i]? = some x) (b : N[j]? = some x) : i = j := by
  obtain ⟨h1, e1⟩ := List.getElem?_eq_some_iff.mp a
  obtain ⟨h2, e2⟩ := List.getElem?_eq_some_iff.mp b
  exact (List.getElem_inj hN).mp (e1.trans e2.symm)
theorem store_ok2 {M : Model} {A : Around} {E : Value → Shared → Prop} {i : Nat} {x : Str} {v : V} {u : Value} {Q : Unit → Shared → Prop} (I : Inv X pins σ H s) (hN : X.N.Nodup) (hi : X.N[i]? = some x) (hx : Loc X.env.scope x) (r : RelV v u)
    (h : ∀ s', Inv X pins (σ.set i (some v)) H s' → (∃ a, Heap.SameBut a s.heap s'.heap ∧ (a = X.env.locals ∨ X.env.cells.lookup x = some a)) → Q () s') (hf : X.fn x = true ∨ X.env.scope.names.lookup x = some .local := by first | exact .inl rfl | exact .inr rfl | assumption) : wpAny M A (storeName X.env x u) Q E s := by
  obtain ⟨m, hn, hl⟩ := id I.loc
  have hcls : (X.env.scope.kind == .class || (X.env.scope.kind == .module && X.env.locals != X.env.globals)) = false := by rw [I.ok.kind]; rfl
  have hiσ : i < σ.length := by rw [I.len]; exact (List.getElem?_eq_some_iff.mp hi).1
  have cne := I.cne
  have tracked : ∀ {a : Addr} {h' : Heap}, (∃ o, s.heap.get? a = some o ∧ H a = none) → Heap.SameBut a s.heap h' → HOk X.prog X.w H h' := fun {a h'} ha hs b ob e => by
    obtain ⟨_, _, hfree⟩ := ha
    refine (I.hok b ob e).stay (fun c w' hc q => (hs.2 c ?_).trans q) (fun _ q => q) fun _ _ q => q
    rintro rfl
    rcases hc with rfl | hc
    · rw [hfree] at e; cases e
    · rw [hfree] at hc; cases hc
  rcases hx with hk | hk
  · refine wpAny_storeName_local hk hn (fun h' hn' hs => ?_) hcls
    obtain ⟨oL, _, _, hoL, _⟩ := id hn
    refine h _ ⟨I.ok, I.os, I.bare, ⟨fun b o e n hb hx => ?_, fun b o e n hb hx => ?_, I.base.free, fun b o e hx => ?_, I.base.tups, I.base.frzs, I.base.tbls⟩, ⟨_, hn', fun j y v' e1 e2 e3 => ?_⟩, fun y c e => ?_, I.free, I.freeC, fun p hp => ?_, tracked ⟨oL, hoL, I.free⟩ hs, by simpa using I.len⟩ ⟨_, hs, .inl rfl⟩
    · exact (hs.2 b (Nat.ne_of_lt (Nat.lt_of_lt_of_le (Heap.lt_size e) I.ok.above))).trans (I.base.keep b o e n hb hx)
    · obtain ⟨sl, e1⟩ := I.base.slot b o e n hb hx
      exact ⟨sl, (hs.2 b (Nat.ne_of_lt (Nat.lt_of_lt_of_le (Heap.lt_size e) I.ok.above))).trans e1⟩
    · obtain ⟨o', e1⟩ := I.base.there b o e hx
      exact ⟨o', (hs.2 b (Nat.ne_of_lt (Nat.lt_of_lt_of_le (Heap.lt_size e) I.ok.above))).trans e1⟩
    · by_cases hj : j = i
      · subst hj
        rw [hi] at e1; cases e1
        rw [List.getElem?_set_self hiσ] at e2
        cases e2
        exact ⟨u, r, .inl ⟨hk, by simp⟩⟩
      · rw [List.getElem?_set_ne (Ne.symm hj)] at e2
        obtain ⟨u', r', q⟩ := hl j y v' e1 e2 e3
        refine ⟨u', r', ?_⟩
        rcases q with ⟨k, e⟩ | ⟨k, c, e, z⟩
        · refine .inl ⟨k, ?_⟩
          have : y ≠ x := fun e => hj (nodup_ix hN e1 (e ▸ hi))
          simp [this, e]
        · exact .inr ⟨k, c, e, z.sameBut hs (cne y c e)⟩
    · obtain ⟨w', z⟩ := I.cell y c e
      exact ⟨w', z.sameBut hs (cne y c e)⟩
    · obtain ⟨e, n, ne, nf, d⟩ := I.pin p hp
      exact ⟨(hs.2 p.1 ne).trans e, n, ne, nf, d⟩
  · have hfn : X.fn x = true := by
      rcases hf with z | z
      · exact z
      · rw [z] at hk; cases hk
    obtain ⟨c, hc⟩ := I.ok.has x (.inl hk)
    obtain ⟨w', z⟩ := I.cell x c hc
    refine wpAny_storeName_cell I.ok.kind hk hc z (fun h' hc' hs => ?_)
    obtain ⟨oc, hoc, hocd⟩ := id z
    refine h { s with heap := h' } ⟨I.ok, I.os, I.bare, ⟨fun b o e n hb hx => ?_, fun b o e n hb hx => ?_, I.base.free, fun b o e hx => ?_, I.base.tups, I.base.frzs, I.base.tbls⟩, ⟨m, hn.sameBut hs (Ne.symm (cne x c hc)), fun j y v' e1 e2 e3 => ?_⟩, fun y c' e => ?_, I.free, I.freeC, fun p hp => ?_, tracked ⟨oc, hoc, I.freeC x c hc⟩ hs, by simpa using I.len⟩ ⟨c, hs, .inr hc⟩
    · exact (hs.2 b (Nat.ne_of_lt (Nat.lt_of_lt_of_le (Heap.lt_size e) (I.ok.cab x c hfn hc)))).trans (I.base.keep b o e n hb hx)
    · obtain ⟨sl, e1⟩ := I.base.slot b o e n hb hx
      exact ⟨sl, (hs.2 b (Nat.ne_of_lt (Nat.lt_of_lt_of_le (Heap.lt_size e) (I.ok.cab x c hfn hc)))).trans e1⟩
    · obtain ⟨o', e1⟩ := I.base.there b o e hx
      exact ⟨o', (hs.2 b (Nat.ne_of_lt (Nat.lt_of_lt_of_le (Heap.lt_size e) (I.ok.cab x c hfn hc)))).trans e1⟩
    · by_cases hj : j = i
      · subst hj
        rw [hi] at e1; cases e1
        rw [List.getElem?_set_self hiσ] at e2
        cases e2
        exact ⟨u, r, .inr ⟨.inl hk, c, hc, hc'⟩⟩
      · rw [List.getElem?_set_ne (Ne.symm hj)] at e2
        obtain ⟨u', r', q⟩ := hl j y v' e1 e2 e3
        refine ⟨u', r', ?_⟩
        rcases q with q | ⟨k, c', e, z'⟩
        · exact .inl q
        · refine .inr ⟨k, c', e, z'.sameBut hs ?_⟩
          rintro rfl
          exact hj (nodup_ix hN e1 (I.ok.inj _ _ _ e hc ▸ hi))
    · by_cases hcc : c' = c
      · subst hcc; exact ⟨_, hc'⟩
      · obtain ⟨w2, z2⟩ := I.cell y c' e
        exact ⟨w2, z2.sameBut hs hcc⟩
    · obtain ⟨e, n, ne, nf, d⟩ := I.pin p hp
      refine ⟨(hs.2 p.1 ?_).trans e, n, ne, nf, d⟩
      intro q
      rw [q, hoc] at e
      have q' : oc = p.2 := Option.some.inj e
      exact d w' (by rw [← q']; exact hocd)
theorem store_ok {M : Model} {A : Around} {E : Value → Shared → Prop} {i : Nat} {x : Str} {v : V} {u : Value} {Q : Unit → Shared → Prop} (I : Inv X pins σ H s) (hN : X.N.Nodup) (hi : X.N[i]? = some x) (hx : Loc X.env.scope x) (r : RelV v u)
    (h : ∀ s', Inv X pins (σ.set i (some v)) H s' → Q () s') (hf : X.fn x = true ∨ X.env.scope.names.lookup x = some .local := by first | exact .inl rfl | exact .inr rfl | assumption) : wpAny M A (storeName X.env x u) Q E s :=
  store_ok2 I hN hi hx r (fun s' I' _ => h s' I') hf
theorem Inv.call' {s' : Shared} {ch : List Addr} (I : Inv X pins σ H s) (ho : s'.os = s.os) (u : Un (frs X.stack) ch H H' s.heap s'.heap) (hok : HOk X.prog X.w H' s'.heap) (hg : AllBare s'.gens)
    (hch : ∀ b ∈ ch, (b ∈ X.ex ∨ X.s₀.heap.objs.size ≤ b) ∧ b ≠ X.env.locals ∧ (∀ x c, X.env.cells.lookup x = some c → c ≠ b) ∧ ∀ p ∈ X.pn ++ pins, p.1 ≠ b) : Inv X pins σ H' s' := by
  obtain ⟨h', g', d', t', o'⟩ := s'
  have e : o' = s.os := ho
  subst e
  exact I.call (g' := g') (t' := t') (d' := d') u hok hg hch
end
abbrev XK := Value → Option Addr → Hp → Prop
abbrev St := List (Option V)
abbrev VK := V → Hp → Prop
abbrev TE := St → Hp → VK → Prop
abbrev TT := St → Hp → (Bool → Hp → Prop) → Prop
abbrev TA := St → Hp → (List V → Hp → Prop) → Prop
structure Ends where
  nx : St → Hp → Prop
  rt : VK
  bk : St → Hp → Prop := fun _ _ => False
  ct : St → Hp → Prop := fun _ _ => False
abbrev TS := Ends → St → Hp → Prop
def EP (X : Cx) (pins : List (Addr × Obj)) (σ : St) (Q : VK) (u : Value) (s' : Shared) : Prop := ∃ v H', Inv X pins σ H' s' ∧ RelV v u ∧ Q v H'
def TP (X : Cx) (pins : List (Addr × Obj)) (σ : St) (Q : Bool → Hp → Prop) (b : Bool) (s' : Shared) : Prop := ∃ H', Inv X pins σ H' s' ∧ Q b H'
def AP (X : Cx) (pins : List (Addr × Obj)) (σ : St) (Q : List V → Hp → Prop) (us : List Value) (s' : Shared) : Prop := ∃ vs H', Inv X pins σ H' s' ∧ Vals vs us ∧ Q vs H'
def SP (X : Cx) (pins : List (Addr × Obj)) (D : Ends) (f : Flow) (s' : Shared) : Prop :=
  match f with
  | .next => ∃ σ' H', Inv X pins σ' H' s' ∧ D.nx σ' H'
  | .brk => ∃ σ' H', Inv X pins σ' H' s' ∧ D.bk σ' H'
  | .cont => ∃ σ' H', Inv X pins σ' H' s' ∧ D.ct σ' H'
  | .ret u => ∃ v σ' H', Inv X pins σ' H' s' ∧ RelV v u ∧ D.rt v H'
def PE (X : Cx) (e : Expr) (t : TE) : Prop :=
  ∀ (pins : List (Addr × Obj)) (s : Shared) (σ : St) (H : Hp) (Q : VK), Inv X pins σ H s → t σ H Q → wpAny (model X.prog X.w) X.A (eval e X.env) (EP X pins σ Q) X.xe s
def PT (X : Cx) (e : Expr) (t : TT) : Prop :=
  ∀ (pins : List (Addr × Obj)) (s : Shared) (σ : St) (H : Hp) (Q : Bool → Hp → Prop), Inv X pins σ H s → t σ H Q → wpAny (model X.prog X.w) X.A (isTrue e X.env (eval e X.env)) (TP X pins σ Q) X.xe s
def PW (X : Cx) (e : Expr) (t : TT) : Prop :=
  ∀ (whole : Sem Value) (pins : List (Addr × Obj)) (s : Shared) (σ : St) (H : Hp) (Q : Bool → Hp → Prop), Inv X pins σ H s → t σ H Q → wpAny (model X.prog X.w) X.A (isTrue e X.env whole) (TP X pins σ Q) X.xe s
theorem PW.pt {X : Cx} {e : Expr} {t : TT} (h : PW X e t) : PT X e t := h _
def PA (X : Cx) (es : List Expr) (t : TA) : Prop :=
  ∀ (pos : Pos) (pins : List (Addr × Obj)) (s : Shared) (σ : St) (H : Hp) (Q : List V → Hp → Prop), Inv X pins σ H s → t σ H Q → wpAny (model X.prog X.w) X.A (spliced (backTo pos (starEach es X.env))) (AP X pins σ Q) X.xe s
def PS (X : Cx) (st : Stmt) (t : TS) : Prop :=
  ∀ (pins : List (Addr × Obj)) (s : Shared) (σ : St) (H : Hp) (D : Ends), Inv X pins σ H s → t D σ H → wpAny (model X.prog X.w) X.A (exec st X.env) (SP X pins D) X.xe s
def PSs (X : Cx) (st : List Stmt) (t : TS) : Prop :=
  ∀ (pins : List (Addr × Obj)) (s : Shared) (σ : St) (H : Hp) (D : Ends), Inv X pins σ H s → t D σ H → wpAny (model X.prog X.w) X.A (execs st X.env) (SP X pins D) X.xe s
theorem thn {α : Type} {t : Sem α} {Q Q' : α → Shared → Prop} {M : Model} {A : Around} {E : Value → Shared → Prop} {s : Shared} (h : wpAny M A t Q E s) (hQ : ∀ a s, Q a s → Q' a s) : wpAny M A t Q' E s := wpAny_mono h hQ fun _ _ x => x
end L2
namespace L2
open PySem PySem.Spec PyProof.Rows
section
variable {X : Cx}
def tVar (i : Nat) : TE := fun σ H Q => ∃ v, σ[i]? = some (some v) ∧ Q v H
def tC (v : V) : TE := fun _ H Q => Q v H
theorem pe_var {i : Nat} {x : Str} {pos : Pos} (hN : X.N[i]? = some x) (hv : Vis X.env.scope x) (hd : (x == ("__debug__" : Str)) = false := by decide) (hcd : (x == ("__classdict__" : Str)) = false := by decide) : PE X (.Name x pos) (tVar i) := by
  intro pins s σ H Q I h
  obtain ⟨v, e, h⟩ := h
  obtain ⟨m, hn, hl⟩ := I.loc
  obtain ⟨u, r, l⟩ := hl i x v hN e hv
  have fin : EP X pins σ Q u s := ⟨v, H, I, r, h⟩
  rcases l with ⟨hk, hm⟩ | ⟨hk, c, hc, hcell⟩
  · exact wpAny_Name (wpAny_loadName_local I.ok.kind hk hn hm fin) hd
  · rcases hk with hk | hk
    · exact wpAny_Name (wpAny_loadName_cell I.ok.kind hk hc hcell fin) hd
    · exact wpAny_Name (wpAny_loadName_free I.ok.kind hk hc hcell fin hcd) hd
theorem pe_int {i j pos} : PE X (.Constant (.int i) j pos) (tC (.int i)) := fun _ _ _ H _ I h => wpAny_Constant_int ⟨.int i, H, I.tok _, ⟨_, rfl⟩, h⟩
theorem pe_bl {b j pos} : PE X (.Constant (.bool b) j pos) (tC (.bl b)) := fun _ _ _ H _ I h => Constant_bool ⟨.bl b, H, I, rfl, h⟩
theorem pe_non {j pos} : PE X (.Constant .none j pos) (tC .non) := fun _ _ _ H _ I h => Constant_none ⟨.non, H, I, rfl, h⟩
theorem pe_str {x j pos} : PE X (.Constant (.str x) j pos) (tC (.str x)) := fun _ _ _ H _ I h => Calls.Constant_str ⟨.str x, H, I.tok _, ⟨_, rfl⟩, h⟩
def Gl (X : Cx) (x : Str) : Prop := X.env.kindOf x = some .globalImplicit
theorem ld_glob {E : Value → Shared → Prop} {pins : List (Addr × Obj)} {s : Shared} {σ : St} {H : Hp} {x : Str} {u : Value} {pos : Pos} {Q : Value → Shared → Prop} (I : Inv X pins σ H s) (hg : Gl X x) (hm : X.mg x = some u) (h : Q u s)
    (hd : (x == ("__debug__" : Str)) = false := by decide) : wpAny (model X.prog X.w) X.A (eval (.Name x pos) X.env) Q E s :=
  Calls.Name_function_global I.ok.kind hg (Calls.loadGlobal_global (by rw [I.ok.glob]; exact I.mod.glob.keeps I.bk) hm h) hd
theorem ld_blt {E : Value → Shared → Prop} {pins : List (Addr × Obj)} {s : Shared} {σ : St} {H : Hp} {x : Str} {u : Value} {pos : Pos} {Q : Value → Shared → Prop} (I : Inv X pins σ H s) (hg : Gl X x) (hm : X.mg x = none) (hv : bootBuiltins x = some u) (h : Q u s)
    (hn : x ≠ "__name__" := by decide) (hd : (x == ("__debug__" : Str)) = false := by decide) : wpAny (model X.prog X.w) X.A (eval (.Name x pos) X.env) Q E s := by
  obtain ⟨mb, h1, h2⟩ := I.mod.blt
  exact Calls.Name_function_global I.ok.kind hg (Calls.loadGlobal_builtin (by rw [I.ok.glob]; exact I.mod.glob.keeps I.bk) hm (by rw [I.ok.blt]; exact h1.keeps I.bk) ((h2 x hn).trans hv) h) hd
theorem pe_glob {x : Str} {v : V} {u : Value} {pos : Pos} (hg : Gl X x) (hm : X.mg x = some u) (r : RelV v u) (hd : (x == ("__debug__" : Str)) = false := by decide) : PE X (.Name x pos) (tC v) :=
  fun _ _ _ H _ I h => ld_glob I hg hm ⟨v, H, I, r, h⟩ hd
theorem pe_bltn {x : Str} {v : V} {u : Value} {pos : Pos} (hg : Gl X x) (hm : X.mg x = none) (hv : bootBuiltins x = some u) (r : RelV v u) (hn : x ≠ "__name__" := by decide) (hd : (x == ("__debug__" : Str)) = false := by decide) : PE X (.Name x pos) (tC v) :=
  fun _ _ _ H _ I h => ld_blt I hg hm hv ⟨v, H, I, r, h⟩ hn hd
variable {a b : Expr} {ta tb : TE} {pos : Pos}
def PC (X : Cx) (op : CmpOp) (a b : Expr) (t : TE) : Prop :=
  ∀ (pins : List (Addr × Obj)) (s : Shared) (σ : St) (H : Hp) (Q : VK), Inv X pins σ H s → t σ H Q →
    wpAny (model X.prog X.w) X.A (eval a X.env) (fun v s₁ => wpAny (model X.prog X.w) X.A (eval b X.env) (fun u s₂ => wpAny (model X.prog X.w) X.A (compareOp op v u) (EP X pins σ Q) X.xe s₂) X.xe s₁) X.xe s
theorem nobehind (b : Expr) {op : CmpOp} (h : op ≠ .In) (h2 : op ≠ .NotIn) : behindInMarks op b = false := by
  have e1 : (op == CmpOp.In) = false := by cases op <;> first | rfl | exact absurd rfl h
  have e2 : (op == CmpOp.NotIn) = false := by cases op <;> first | rfl | exact absurd rfl h2
  cases b <;> simp [behindInMarks, e1, e2]
def tB (t : TE) : TT := fun σ H Q => t σ H fun x H1 => ∃ c, x = .bl c ∧ Q c H1
theorem pt_cmp {op : CmpOp} {t : TE} (h : PC X op a b t) (h1 : behindInMarks op b = false := by first | exact nobehind _ (by decide) (by decide) | rfl) : PT X (.Compare a [op] [b] pos) (tB t) := by
  intro pins s σ H Q I hw
  refine wpAny_isTrue_Compare1 (thn (h pins s σ H _ I hw) fun v s1 h1 => thn h1 fun u s2 h2 => thn h2 fun c s3 ⟨x, H1, I1, r1, q1⟩ => ?_) h1
  obtain ⟨d, rfl, q⟩ := q1
  cases r1
  exact wpAny_truthy_bool ⟨H1, I1, q⟩
theorem pt_val {e : Expr} {t : TE} (h : PE X e t) (he : ∀ whole, isTrue e X.env whole = (do let v ← whole; standAt e.pos; holding [v] (truthy v)) := by intro _; rfl) : PT X e (tB t) := by
  intro pins s σ H Q I hw
  refine isTrue_plain (thn (h pins s σ H _ I hw) fun v s1 ⟨x, H1, I1, r1, q1⟩ => ?_) (he _)
  obtain ⟨d, rfl, q⟩ := q1
  cases r1
  exact wpAny_truthy_bool ⟨H1, I1, q⟩
variable {tA tB' : TT} {rest : List Expr}
def tAnd (t u : TT) : TT := fun σ H Q => t σ H fun c H1 => if c = true then u σ H1 Q else Q false H1
def tOr (t u : TT) : TT := fun σ H Q => t σ H fun c H1 => if c = true then Q true H1 else u σ H1 Q
def tNot (t : TT) : TT := fun σ H Q => t σ H fun c H1 => Q (!c) H1
theorem pw_and1 (ha : PT X a tA) : PW X (.BoolOp .And [a] pos) tA := by
  intro wh pins s σ H Q I h
  refine isTrue_and (thn (ha pins s σ H Q I h) fun c s1 e => ?_)
  cases c with
  | true => exact isTrue_and_nil e
  | false => exact e
theorem pw_or1 (ha : PT X a tA) : PW X (.BoolOp .Or [a] pos) tA := by
  intro wh pins s σ H Q I h
  refine isTrue_or (thn (ha pins s σ H Q I h) fun c s1 e => ?_)
  cases c with
  | false => exact isTrue_or_nil e
  | true => exact e
theorem pw_and (ha : PT X a tA) (hb : PW X (.BoolOp .And (b :: rest) pos) tB') : PW X (.BoolOp .And (a :: b :: rest) pos) (tAnd tA tB') := by
  intro wh pins s σ H Q I h
  refine isTrue_and (thn (ha pins s σ H _ I h) fun c s1 ⟨H1, I1, q1⟩ => ?_)
  cases c with
  | true => exact hb wh pins s1 σ H1 Q I1 q1
  | false => exact ⟨H1, I1, q1⟩
theorem pw_or (ha : PT X a tA) (hb : PW X (.BoolOp .Or (b :: rest) pos) tB') : PW X (.BoolOp .Or (a :: b :: rest) pos) (tOr tA tB') := by
  intro wh pins s σ H Q I h
  refine isTrue_or (thn (ha pins s σ H _ I h) fun c s1 ⟨H1, I1, q1⟩ => ?_)
  cases c with
  | true => exact ⟨H1, I1, q1⟩
  | false => exact hb wh pins s1 σ H1 Q I1 q1
theorem pt_not (ha : PT X a tA) : PT X (.UnaryOp .Not a pos) (tNot tA) := by
  intro pins s σ H Q I h
  exact isTrue_not (ha pins s σ H (fun c H1 => Q (!c) H1) I h)
def tAndV (ta tb : TE) : TE := fun σ H Q => ta σ H fun x H1 => ∃ c, x = .bl c ∧ if c = true then tb σ H1 Q else Q (.bl false) H1
def tNotV (ta : TE) : TE := fun σ H Q => ta σ H fun x H1 => ∃ c, x = .bl c ∧ Q (.bl (!c)) H1
theorem pe_one {op} {t : TE} (h : PE X a t) : PE X (.BoolOp op [a] pos) t := fun pins s σ H Q I hw => BoolOp_one (h pins s σ H Q I hw)
theorem pe_and (ha : PE X a ta) (hb : PE X (.BoolOp .And (b :: rest) pos) tb) : PE X (.BoolOp .And (a :: b :: rest) pos) (tAndV ta tb) := by
  intro pins s σ H Q I h
  refine BoolOp_and (thn (ha pins s σ H _ I h) fun v s1 ⟨x, H1, I1, r1, q1⟩ => ?_)
  obtain ⟨c, rfl, q1⟩ := q1
  cases r1
  refine wpAny_truthy_bool ?_
  cases c with
  | true => exact hb pins s1 σ H1 Q I1 q1
  | false => exact ⟨.bl false, H1, I1, rfl, q1⟩
theorem pe_not (ha : PE X a ta) : PE X (.UnaryOp .Not a pos) (tNotV ta) := by
  intro pins s σ H Q I h
  refine UnaryOp_ (thn (ha pins s σ H _ I h) fun v s1 ⟨x, H1, I1, r1, q1⟩ => ?_)
  obtain ⟨c, rfl, q1⟩ := q1
  cases r1
  exact not_of (wpAny_truthy_bool ⟨.bl (!c), H1, I1, rfl, q1⟩)
def tIf (t : TT) (ta tb : TE) : TE := fun σ H Q => t σ H fun c H1 => if c = true then ta σ H1 Q else tb σ H1 Q
theorem pe_ifExp {c : Expr} (hc : PT X c tA) (ha : PE X a ta) (hb : PE X b tb) : PE X (.IfExp c a b pos) (tIf tA ta tb) := by
  intro pins s σ H Q I h
  refine wpAny_IfExp (thn (hc pins s σ H _ I h) fun d s1 ⟨H1, I1, q1⟩ => ?_)
  cases d with
  | true => exact ha pins s1 σ H1 Q I1 q1
  | false => exact hb pins s1 σ H1 Q I1 q1
end
end L2
namespace L2
open PySem PySem.Spec PyProof.Rows
def SqL (K : PySem.W.Frag) (H : Hp) (a : Addr) (xs : List V) : Prop :=
  Rd H a (.lst xs) ∨
    ∃ (o : Obj) (its : Array Value) (n : Nat), K.lookup a = some o ∧ o.cls = .type "list" ∧ o.dict = none ∧ o.data = .seq its n ∧ its.size ≤ sizeLine ∧ Vals xs its.toList
def SqT (K : PySem.W.Frag) (H : Hp) (a : Addr) (xs : List V) : Prop :=
  Rd H a (.tup xs) ∨
    ∃ (o : Obj) (its : Array Value) (n : Nat), K.lookup a = some o ∧ o.cls = .type "tuple" ∧ o.data = .seq its n ∧ its.size ≤ sizeLine ∧ Vals xs its.toList
def absV : Value → Option V
  | .none => some .non
  | .bool b => some (.bl b)
  | .int i _ => some (.int i)
  | .str x _ => some (.str x)
  | .bytes b _ => some (.byt b)
  | .float b _ => some (.flt b)
  | .ref a => some (.ref a)
  | .type n => some (.ty n)
  | _ => none
theorem RelV.abs {x : V} {u : Value} (r : RelV x u) : absV u = some x := by
  cases x with
  | non => cases r; rfl
  | bl _ => cases r; rfl
  | int _ => obtain ⟨t, rfl⟩ := r; rfl
  | str _ => obtain ⟨t, rfl⟩ := r; rfl
  | byt _ => obtain ⟨t, rfl⟩ := r; rfl
  | flt _ => obtain ⟨t, rfl⟩ := r; rfl
  | ref _ => cases r; rfl
  | ty _ => cases r; rfl
theorem RelV.inj {x y : V} {u : Value} (r : RelV x u) (q : RelV y u) : x = y := Option.some.inj (r.abs.symm.trans q.abs)
theorem Vals.inj : ∀ {xs ys : List V} {us : List Value}, Vals xs us → Vals ys us → xs = ys
  | _, _, _, .nil, .nil => rfl
  | _, _, _, .cons r t, .cons r' t' => by rw [r.inj r', Vals.inj t t']
section
variable {X : Cx} {pins : List (Addr × Obj)} {σ : St} {H : Hp} {s : Shared} {a : Addr} {xs ys : List V}
theorem SqL.of {K : PySem.W.Frag} (h : H a = some (.lst xs)) : SqL K H a xs := .inl (.inl h)
theorem SqT.of {K : PySem.W.Frag} (h : H a = some (.tup xs)) : SqT K H a xs := .inl (.inl h)
theorem Inv.list (I : Inv X pins σ H s) (h : SqL X.K H a xs) : ∃ its : List Value, Vals xs its ∧ PlainL s.heap a its.toArray ∧ xs.length ≤ sizeLine := by
  rcases h with h | ⟨o, its, n, hk, hc, hd, hs, hz, r⟩
  · obtain ⟨z, its, n, r, e⟩ := h.ok I.hok
    exact ⟨its, r, ⟨_, n, e, rfl, rfl, rfl⟩, z⟩
  · refine ⟨its.toList, r, ⟨o, n, I.kIn a o hk, hc, hd, by simpa using hs⟩, ?_⟩
    have e := r.length
    simp only [Array.length_toList] at e
    omega
theorem Inv.tuple (I : Inv X pins σ H s) (h : SqT X.K H a xs) : ∃ its : List Value, Vals xs its ∧ IsTup s.heap a its.toArray ∧ xs.length ≤ sizeLine := by
  rcases h with h | ⟨o, its, n, hk, hc, hs, hz, r⟩
  · obtain ⟨z, its, r, p⟩ := h.ok I.hok
    exact ⟨its, r, p.up, z⟩
  · refine ⟨its.toList, r, ⟨o, I.kIn a o hk, hc, n, by simpa using hs⟩, ?_⟩
    have e := r.length
    simp only [Array.length_toList] at e
    omega
theorem Inv.list_inj (I : Inv X pins σ H s) (h : SqL X.K H a xs) (h' : SqL X.K H a ys) : xs = ys := by
  obtain ⟨its, r, ⟨o, n, e, _, _, d⟩, _⟩ := I.list h
  obtain ⟨its', r', ⟨o', n', e', _, _, d'⟩, _⟩ := I.list h'
  rw [e] at e'; cases e'
  rw [d] at d'
  injection d' with d1 _
  have : its = its' := by simpa using congrArg Array.toList d1
  subst this
  exact r.inj r'
theorem Inv.tuple_inj (I : Inv X pins σ H s) (h : SqT X.K H a xs) (h' : SqT X.K H a ys) : xs = ys := by
  obtain ⟨its, r, ⟨o, e, _, n, d⟩, _⟩ := I.tuple h
  obtain ⟨its', r', ⟨o', e', _, n', d'⟩, _⟩ := I.tuple h'
  rw [e] at e'; cases e'
  rw [d] at d'
  injection d' with d1 _
  have : its = its' := by simpa using congrArg Array.toList d1
  subst this
  exact r.inj r'
end
abbrev Cx.wish (X : Cx) (E : Value → Shared → Prop) : Cx := { X with xe := E }
abbrev Cx.nox (X : Cx) : Cx := X.wish fun _ _ => False
theorem Cx.Ok.wish {X : Cx} (ok : X.Ok) (E : Value → Shared → Prop) : (X.wish E).Ok :=
  ⟨ok.mod, ok.kind, ok.glob, ok.blt, ok.above, ok.inj, ok.has, ok.cab, ok.hd, ok.frames, ok.stk, ok.exf, ok.bs, ok.bsz, ok.noex, ok.exfs, ok.funs, ok.frf⟩
theorem Cx.Ok.unwish {X : Cx} {E : Value → Shared → Prop} (ok : (X.wish E).Ok) : X.Ok :=
  ⟨ok.mod, ok.kind, ok.glob, ok.blt, ok.above, ok.inj, ok.has, ok.cab, ok.hd, ok.frames, ok.stk, ok.exf, ok.bs, ok.bsz, ok.noex, ok.exfs, ok.funs, ok.frf⟩
section
variable {X : Cx} {pins : List (Addr × Obj)} {σ : St} {H : Hp} {s : Shared} {E : Value → Shared → Prop}
theorem Inv.wish (I : Inv X pins σ H s) (E : Value → Shared → Prop) : Inv (X.wish E) pins σ H s := ⟨I.ok.wish E, I.os, I.bare, I.base, I.loc, I.cell, I.free, I.freeC, I.pin, I.hok, I.len⟩
theorem Inv.unwish (I : Inv (X.wish E) pins σ H s) : Inv X pins σ H s := ⟨I.ok.unwish, I.os, I.bare, I.base, I.loc, I.cell, I.free, I.freeC, I.pin, I.hok, I.len⟩
theorem SP.unwish {D : Ends} {f : Flow} {s' : Shared} (h : SP (X.wish E) pins D f s') : SP X pins D f s' := by
  cases f with
  | next => obtain ⟨σ', H', I, q⟩ := h; exact ⟨σ', H', I.unwish, q⟩
  | brk => obtain ⟨σ', H', I, q⟩ := h; exact ⟨σ', H', I.unwish, q⟩
  | cont => obtain ⟨σ', H', I, q⟩ := h; exact ⟨σ', H', I.unwish, q⟩
  | ret u => obtain ⟨v, σ', H', I, r, q⟩ := h; exact ⟨v, σ', H', I.unwish, r, q⟩
theorem PE.nox {e : Expr} {t : TE} (h : PE X.nox e t) : PE X e t := fun pins s σ H Q I hw =>
  wpAny_mono (h pins s σ H Q (I.wish _) hw) (fun _ _ ⟨v, H', I', r, q⟩ => ⟨v, H', I'.unwish, r, q⟩) fun _ _ z => False.elim z
theorem PT.nox {e : Expr} {t : TT} (h : PT X.nox e t) : PT X e t := fun pins s σ H Q I hw =>
  wpAny_mono (h pins s σ H Q (I.wish _) hw) (fun _ _ ⟨H', I', q⟩ => ⟨H', I'.unwish, q⟩) fun _ _ z => False.elim z
theorem PSs.nox {st : List Stmt} {t : TS} (h : PSs X.nox st t) : PSs X st t := fun pins s σ H D I hw =>
  wpAny_mono (h pins s σ H D (I.wish _) hw) (fun _ _ q => q.unwish) fun _ _ z => False.elim z
end
section
variable {X : Cx} {st : Stmt} {rest : List Stmt} {t u : TS} {e : Expr} {te : TE} {pos : Pos}
def tNext : TS := fun D σ H => D.nx σ H
def tSeq (t u : TS) : TS := fun D σ H => t { D with nx := u D } σ H
theorem pss_nil : PSs X [] tNext := fun _ _ σ H _ I h => wpAny_execs_nil ⟨σ, H, I, h⟩
theorem pss_cons (h1 : PS X st t) (h2 : PSs X rest u) : PSs X (st :: rest) (tSeq t u) := by
  intro pins s σ H D I h
  refine wpAny_execs_cons (thn (h1 pins s σ H { D with nx := u D } I h) fun f s1 q => ?_)
  cases f with
  | next =>
    obtain ⟨σ', H', I', q⟩ := q
    exact h2 pins s1 σ' H' D I' q
  | ret v => exact q
  | brk => exact q
  | cont => exact q
theorem pss_one (h1 : PS X st t) : PSs X [st] t := by
  intro pins s σ H D I h
  refine wpAny_execs_cons (thn (h1 pins s σ H D I h) fun f s1 q => ?_)
  cases f with
  | next => exact wpAny_execs_nil q
  | ret v => exact q
  | brk => exact q
  | cont => exact q
theorem Inv.quiet {pins : List (Addr × Obj)} {σ : St} {H : Hp} {s : Shared} (I : Inv X pins σ H s) : interactive X.env = false := by simp [interactive, I.ok.kind]
def tDrop (te : TE) : TS := fun D σ H => te σ H fun _ H1 => D.nx σ H1
theorem ps_expr (he : PE X e te) (hs : swapsWith e none pos.line X.env = pure false := by rfl) : PS X (.Expr e pos) (tDrop te) := by
  intro pins s σ H D I h
  exact wpAny_Expr_any (thn (he pins s σ H _ I h) fun v s1 ⟨x, H1, I1, r1, q1⟩ => ⟨σ, H1, I1, q1⟩) I.quiet hs
def tRet (te : TE) : TS := fun D σ H => te σ H D.rt
theorem ps_ret (he : PE X e te) : PS X (.Return (some e) pos) (tRet te) := by
  intro pins s σ H D I h
  exact wpAny_Return_some (thn (he pins s σ H _ I h) fun v s1 ⟨x, H1, I1, r1, q1⟩ => ⟨x, σ, H1, I1, r1, q1⟩)
def tIfS (c : TT) (t u : TS) : TS := fun D σ H => c σ H fun b H1 => if b = true then t D σ H1 else u D σ H1
theorem ps_if {c : Expr} {a b : List Stmt} {tc : TT} (hc : PT X c tc) (ha : PSs X a t) (hb : PSs X b u) : PS X (.If c a b pos) (tIfS tc t u) := by
  intro pins s σ H D I h
  refine wpAny_If (thn (hc pins s σ H _ I h) fun d s1 ⟨H1, I1, q1⟩ => ?_)
  cases d with
  | true => exact ha pins s1 σ H1 D I1 q1
  | false => exact hb pins s1 σ H1 D I1 q1
def tNever : TS := fun _ _ _ => False
theorem ps_never : PS X st tNever := fun _ _ _ _ _ _ h => h.elim
end
abbrev TG := V → St → Hp → (St → Hp → Prop) → Prop
abbrev TGs := List V → St → Hp → (St → Hp → Prop) → Prop
def PG (X : Cx) (target : Expr) (t : TG) : Prop :=
  ∀ (pins : List (Addr × Obj)) (s : Shared) (σ : St) (H : Hp) (v : V) (u : Value) (Q : St → Hp → Prop), Inv X pins σ H s → RelV v u → t v σ H Q →
    wpAny (model X.prog X.w) X.A (assign target X.env u) (fun _ s' => ∃ σ' H', Inv X pins σ' H' s' ∧ Q σ' H') X.xe s
def PGs (X : Cx) (ts : List Expr) (t : TGs) : Prop :=
  ∀ (pins : List (Addr × Obj)) (s : Shared) (σ : St) (H : Hp) (vs : List V) (us : List Value) (Q : St → Hp → Prop), Inv X pins σ H s → Vals vs us → t vs σ H Q →
    wpAny (model X.prog X.w) X.A (assignInOrder ((assignEach ts X.env).map (·.2)) us) (fun _ s' => ∃ σ' H', Inv X pins σ' H' s' ∧ Q σ' H') X.xe s
abbrev TSet := V → V → V → Hp → (Hp → Prop) → Prop
def PSet (X : Cx) (t : TSet) : Prop :=
  ∀ (pins : List (Addr × Obj)) (s : Shared) (σ : St) (H : Hp) (o i v : V) (ov iv u : Value) (Q : Hp → Prop), Inv X pins σ H s → RelV o ov → RelV i iv → RelV v u → t o i v H Q →
    wpAny (model X.prog X.w) X.A (setItem ov iv u) (fun _ s' => ∃ H', Inv X pins σ H' s' ∧ Q H') X.xe s
abbrev TIp := V → V → Hp → VK → Prop
def PIp (X : Cx) (op : Operator) (t : TIp) : Prop :=
  ∀ (pins : List (Addr × Obj)) (s : Shared) (σ : St) (H : Hp) (x y : V) (v u : Value) (Q : VK), Inv X pins σ H s → RelV x v → RelV y u → t x y H Q →
    wpAny (model X.prog X.w) X.A (inplaceOp op v u) (EP X pins σ Q) X.xe s
section
variable {X : Cx} {pos : Pos}
def gName (i : Nat) : TG := fun v σ H Q => Q (σ.set i (some v)) H
theorem pg_name {i : Nat} {x : Str} (hN : X.N.Nodup) (hi : X.N[i]? = some x) (hx : Loc X.env.scope x) (hf : X.fn x = true ∨ X.env.scope.names.lookup x = some .local := by first | exact .inl rfl | exact .inr rfl | assumption) : PG X (.Name x pos) (gName i) := by
  intro pins s σ H v u Q I r h
  exact wpAny_assign_Name (store_ok I hN hi hx r (fun s' I' => ⟨_, H, I', h⟩) hf)
def gNil : TGs := fun vs σ H Q => vs = [] ∧ Q σ H
def gCons (t : TG) (u : TGs) : TGs := fun vs σ H Q => ∃ v r, vs = v :: r ∧ t v σ H fun σ' H' => u r σ' H' Q
theorem pgs_nil : PGs X [] gNil := by
  intro pins s σ H vs us Q I r h
  obtain ⟨e, h⟩ := h
  subst e
  cases r
  exact assignInOrder_nil ⟨σ, H, I, h⟩
theorem pgs_cons {e : Expr} {es : List Expr} {t : TG} {u : TGs} (h1 : PG X e t) (h2 : PGs X es u)
    (hs : (assignEach (e :: es) X.env).map (·.2) = assign e X.env :: (assignEach es X.env).map (·.2) := by rfl) : PGs X (e :: es) (gCons t u) := by
  intro pins s σ H vs us Q I r h
  obtain ⟨v, vr, e1, h⟩ := h
  subst e1
  cases r with
  | cons r rr =>
    rw [hs]
    refine assignInOrder_cons (thn (h1 pins s σ H _ _ _ I r h) fun _ s1 ⟨σ1, H1, I1, q1⟩ => ?_)
    exact h2 pins s1 σ1 H1 _ _ Q I1 rr q1
def gTup (K : PySem.W.Frag) (n : Nat) (t : TGs) : TG := fun v σ H Q => ∃ a xs, v = .ref a ∧ SqT K H a xs ∧ xs.length = n ∧ t xs σ H Q
theorem pg_tup {es : List Expr} {k : Nat} {t : TGs} {n : Nat} (hc : X.calm = true) (h : PGs X es t)
    (hn : (assignEach es X.env).length = n := by rfl) (hst : (assignEach es X.env).findIdx? (·.1) = none := by rfl) : PG X (.Tuple es k pos) (gTup X.K n t) := by
  intro pins s σ H v u Q I r hw
  obtain ⟨a, xs, e1, hq, hl, hw⟩ := hw
  subst e1
  cases r
  obtain ⟨its, rv, ht, hz⟩ := I.tuple hq
  refine assign_Tuple_tuple (I.ok.hd hc) ht (by simp [hn, ← hl, rv.length]) hst fun h' hx => ?_
  have I1 : Inv X pins σ H { s with heap := h' } := I.kept (t' := s.toks) fun b o e => hx b o (Nat.ne_of_lt (Heap.lt_size e)) e
  exact h pins _ σ H xs _ Q I1 (by simpa using rv) hw
def gSub (to ti : TE) (t : TSet) : TG := fun v σ H Q => to σ H fun o H1 => ti σ H1 fun i H2 => t o i v H2 fun H3 => Q σ H3
theorem pg_sub {o i : Expr} {to ti : TE} {t : TSet} (ho : PE X o to) (hi : PE X i ti) (hs : PSet X t)
    (ha : ∀ v, assign (.Subscript o i pos) X.env v = (do
      let ov ← holding [v] (eval o X.env)
      let iv ← holding [v, ov] (eval i X.env)
      standAt pos
      holding [v, ov, iv] (setItem ov iv v)
      release [v, ov, iv] []) := by intro _; rfl) : PG X (.Subscript o i pos) (gSub to ti t) := by
  intro pins s σ H v u Q I r h
  rw [ha]
  refine wpAny_bind (wpAny_holding (thn (ho pins s σ H _ I h) fun ov s1 ⟨x, H1, I1, r1, q1⟩ => ?_))
  refine wpAny_bind (wpAny_holding (thn (hi pins s1 σ H1 _ I1 q1) fun iv s2 ⟨y, H2, I2, r2, q2⟩ => ?_))
  refine wpAny_bind (wpAny_standAt (wpAny_bind (wpAny_holding (thn (hs pins s2 σ H2 x y v ov iv u _ I2 r1 r2 r q2) fun _ s3 ⟨H3, I3, q3⟩ => ?_))))
  exact wpAny_release ⟨σ, H3, I3, q3⟩
def tAsg (te : TE) (g : TG) : TS := fun D σ H => te σ H fun x H1 => g x σ H1 D.nx
theorem ps_asg {tg e : Expr} {te : TE} {g : TG} (he : PE X e te) (hg : PG X tg g) (hs : swapsWithSole [tg] e pos.line X.env = pure false := by rfl) (hw : swappedStores [tg] e X.env = pure none := by rfl)
    (h1 : (assignEach [tg] X.env).map (·.2) = [assign tg X.env] := by rfl) : PS X (.Assign [tg] e pos) (tAsg te g) := by
  intro pins s σ H D I h
  refine wpAny_Assign_stores (thn (he pins s σ H _ I h) fun v s1 ⟨x, H1, I1, r1, q1⟩ => ?_) hs hw
  rw [h1]
  exact thn (hg pins s1 σ H1 x v _ I1 r1 q1) fun _ s2 q => q
theorem ps_set {i : Nat} {x : Str} {e : Expr} {te : TE} {pos' : Pos} (hN : X.N.Nodup) (hi : X.N[i]? = some x) (hx : Loc X.env.scope x) (he : PE X e te) (hs : swapsWith e (some (.Name x pos')) pos.line X.env = pure false := by rfl) (hf : X.fn x = true ∨ X.env.scope.names.lookup x = some .local := by first | exact .inl rfl | exact .inr rfl | assumption) :
    PS X (.Assign [.Name x pos'] e pos) (tAsg te (gName i)) := by
  intro pins s σ H D I h
  refine wpAny_Assign_Name (thn (he pins s σ H _ I h) fun v s1 ⟨y, H1, I1, r1, q1⟩ => ?_) hs
  exact store_ok I1 hN hi hx r1 (fun s2 I2 => ⟨_, H1, I2, q1⟩) hf
def tAug (i : Nat) (te : TE) (ti : TIp) : TS := fun D σ H => ∃ x, σ[i]? = some (some x) ∧ te σ H fun y H1 => ti x y H1 fun z H2 => D.nx (σ.set i (some z)) H2
theorem ps_aug {i : Nat} {x : Str} {e : Expr} {te : TE} {op : Operator} {ti : TIp} {pos' : Pos} (hN : X.N.Nodup) (hi : X.N[i]? = some x) (hx : Loc X.env.scope x) (he : PE X e te) (ho : PIp X op ti) (hf : X.fn x = true ∨ X.env.scope.names.lookup x = some .local := by first | exact .inl rfl | exact .inr rfl | assumption) :
    PS X (.AugAssign (.Name x pos') op e pos) (tAug i te ti) := by
  intro pins s σ H D I h
  obtain ⟨v, e1, h⟩ := h
  obtain ⟨m, hn, hl⟩ := I.loc
  have vis : Vis X.env.scope x := by rcases hx with k | k; exact .inl k; exact .inr (.inl k)
  obtain ⟨u, r, l⟩ := hl i x v hi e1 vis
  refine wpAny_AugAssign_Name ?_
  have go : wpAny (model X.prog X.w) X.A (eval e X.env) (fun w s₂ => wpAny (model X.prog X.w) X.A (inplaceOp op u w) (fun r s₃ => wpAny (model X.prog X.w) X.A (storeName X.env x r) (fun _ => SP X pins D .next) X.xe s₃) X.xe s₂) X.xe s := by
    refine thn (he pins s σ H _ I h) fun w s1 ⟨y, H1, I1, r1, q1⟩ => ?_
    refine thn (ho pins s1 σ H1 v y u w _ I1 r r1 q1) fun z s2 ⟨zv, H2, I2, r2, q2⟩ => ?_
    exact store_ok I2 hN hi hx r2 (fun s3 I3 => ⟨_, H2, I3, q2⟩) hf
  rcases l with ⟨hk, hm⟩ | ⟨hk, c, hc, hcell⟩
  · exact wpAny_loadName_local I.ok.kind hk hn hm go
  · rcases hk with hk | hk
    · exact wpAny_loadName_cell I.ok.kind hk hc hcell go
    · rcases hx with k | k
      · have : X.env.scope.names.lookup x = some .free := hk
        rw [k] at this; cases this
      · have : X.env.scope.names.lookup x = some .free := hk
        rw [k] at this; cases this
def ipI (f : Int → Int → Int) : TIp := fun x y H Q => ∃ i j, x = .int i ∧ y = .int j ∧ Q (.int (f i j)) H
theorem ip_add : PIp X .Add (ipI fun i j => i + j) := by
  intro pins s σ H x y v u Q I r1 r2 h
  obtain ⟨i, j, e1, e2, q⟩ := h
  subst e1; subst e2
  obtain ⟨t, rfl⟩ := r1
  obtain ⟨t', rfl⟩ := r2
  exact iadd_int ⟨.int _, H, I.tok _, ⟨_, rfl⟩, q⟩
end
section
variable {X : Cx} {pos : Pos}
def tWhile (c : TT) (tb : TS) : TS := fun D σ H => ∃ W : Nat → St → Hp → Prop, (∃ m, W m σ H) ∧ ∀ m σ H, W m σ H →
  c σ H fun b H1 => if b = true then ∃ N : St → Hp → Prop, (∀ σ' H', N σ' H' → ∃ m', m' < m ∧ W m' σ' H') ∧ tb { D with nx := N, ct := N, bk := D.nx } σ H1 else D.nx σ H1
theorem ps_while {c : Expr} {body : List Stmt} {tc : TT} {tb : TS} (hp : PassesOwn (model X.prog X.w) X.A X.env X.xe) (hc : PT X c tc) (hb : PSs X body tb) : PS X (.While c body [] pos) (tWhile tc tb) := by
  intro pins s σ H D I h
  obtain ⟨W, ⟨m0, w0⟩, turn⟩ := h
  refine wpAny_While (codeAny_whileLoop (fun n s' => ∃ σ' H', Inv X pins σ' H' s' ∧ W n σ' H') ?_ m0 ⟨σ, H, I, w0⟩)
  rintro n s1 ⟨σ1, H1, I1, w1⟩
  refine wpAny_passesOwn hp (thn (hc pins s1 σ1 H1 _ I1 (turn n σ1 H1 w1)) fun b s2 ⟨H2, I2, q2⟩ => ?_)
  cases b with
  | true =>
    obtain ⟨N, hN, q2⟩ := q2
    rw [if_pos rfl]
    refine wpAny_passesOwn hp (thn (hb pins s2 σ1 H2 _ I2 q2) fun f s3 q3 => ?_)
    cases f with
    | next =>
      obtain ⟨σ3, H3, I3, n3⟩ := q3
      obtain ⟨m', hm, w3⟩ := hN σ3 H3 n3
      exact ⟨m', hm, σ3, H3, I3, w3⟩
    | cont =>
      obtain ⟨σ3, H3, I3, n3⟩ := q3
      obtain ⟨m', hm, w3⟩ := hN σ3 H3 n3
      exact ⟨m', hm, σ3, H3, I3, w3⟩
    | brk => exact q3
    | ret v => exact q3
  | false =>
    rw [if_neg Bool.false_ne_true]
    exact wpAny_execs_nil ⟨σ1, H2, I2, q2⟩
end
structure It where
  go : Nat → Hp → Prop
  yld : Nat → Hp → V → Hp → Prop
  stop : Nat → Hp → Prop
def FpOk (X : Cx) (pins : List (Addr × Obj)) (H : Hp) (b : Addr) : Prop :=
  H b = none ∧ b ≠ X.env.locals ∧ b ∉ X.fs ∧ (b ∈ X.ex ∨ X.s₀.heap.objs.size ≤ b) ∧ (∀ x c, X.env.cells.lookup x = some c → c ≠ b) ∧ ∀ p ∈ X.pn ++ pins, p.1 ≠ b
theorem Inv.fpOk {X : Cx} {pins : List (Addr × Obj)} {σ : St} {H H' : Hp} {s : Shared} {b : Addr} (I : Inv X pins σ H s) (hb : s.heap.objs.size ≤ b) (hn : H' b = none) : FpOk X pins H' b := by
  refine ⟨hn, Nat.ne_of_gt (Nat.lt_of_lt_of_le I.lt hb), I.nofs hb, .inr (Nat.le_trans I.sz hb), fun x c e z => ?_, fun p hp z => ?_⟩
  · obtain ⟨v, q⟩ := I.cell x c e
    exact absurd (Nat.lt_of_lt_of_le q.lt (by rw [z]; exact hb)) (Nat.lt_irrefl _)
  · exact absurd (Nat.lt_of_lt_of_le (Heap.lt_size (I.pin p hp).1) (by rw [z]; exact hb)) (Nat.lt_irrefl _)
structure Turn (P : Program) (w : World) (K : PySem.W.Frag) (tg : Expr) (J : It) (fp : List Addr) (it : Addr) (tn : Nat → Heap → Prop) : Prop where
  mem : it ∈ fp
  obj : ∀ i h, tn i h → ∀ b ∈ fp, ∃ o, h.get? b = some o ∧ ∀ v, o.data ≠ .cell v
  keep : ∀ i h h', tn i h → (∀ b ∈ fp, ∀ o, h.get? b = some o → h'.get? b = some o) → tn i h'
  item : ∀ (X : Cx), X.prog = P → X.w = w → X.K = K → X.calm = true → ∀ (i : Nat) (pins : List (Addr × Obj)) (s : Shared) (σ : St) (H : Hp) (E : Value → Shared → Prop), Inv X pins σ H s → (∀ b ∈ fp, FpOk X pins H b) → tn i s.heap → J.go i H →
    wpAny (model P w) X.A (pyNext (.ref it)) (fun r s1 => ∃ u, r = some u ∧
      wpAny (model P w) X.A (letOwnedTupleGo tg (.ref it) u) (fun _ s2 => ∃ x H', Inv X pins σ H' s2 ∧ RelV x u ∧ J.yld i H x H' ∧ tn (i + 1) s2.heap ∧ ∀ b ∈ fp, H' b = none) E s1) E s
  done : ∀ (X : Cx), X.prog = P → X.w = w → X.K = K → X.calm = true → ∀ (i : Nat) (pins : List (Addr × Obj)) (s : Shared) (σ : St) (H : Hp) (E : Value → Shared → Prop), Inv X pins σ H s → (∀ b ∈ fp, FpOk X pins H b) → tn i s.heap → J.stop i H →
    wpAny (model P w) X.A (pyNext (.ref it)) (fun r s1 => r = none ∧ Inv X pins σ H s1) E s
  self : ∀ (A : Around) (i : Nat) (s : Shared) (Q : Value → Shared → Prop) (E : Value → Shared → Prop), tn i s.heap → Q (.ref it) s → wpAny (model P w) A (pyIter (.ref it)) Q E s
abbrev TI := St → Hp → (It → Hp → Prop) → Prop
def PIE (X : Cx) (pins : List (Addr × Obj)) (σ : St) (tg : Expr) (R : It → Hp → Prop) (itv : Value) (s2 : Shared) : Prop :=
  ∃ (it : Addr) (fp : List Addr) (tn : Nat → Heap → Prop) (J : It) (H' : Hp), itv = .ref it ∧ Inv X pins σ H' s2 ∧ Turn X.prog X.w X.K tg J fp it tn ∧ tn 0 s2.heap ∧ (∀ b ∈ fp, FpOk X pins H' b) ∧ R J H'
def PI (X : Cx) (tg iter : Expr) (wi : TI) : Prop :=
  ∀ (pins : List (Addr × Obj)) (s : Shared) (σ : St) (H : Hp) (R : It → Hp → Prop), Inv X pins σ H s → wi σ H R →
    wpAny (model X.prog X.w) X.A (eval iter X.env) (fun v s1 => wpAny (model X.prog X.w) X.A (pyIter v) (PIE X pins σ tg R) X.xe s1) X.xe s
theorem go_of {M : Model} {A : Around} {E : Value → Shared → Prop} {s : Shared} {tg : Expr} {it : Addr} {u : Value} {o : Obj} {n : String} {vs : Array Value} {Q : Unit → Shared → Prop} (ho : s.heap.get? it = some o) (hc : o.cls = .type n) (hd : o.data = .fields vs)
    (hn : ["enumerate", "zip", "dict_itemiterator", "dict_reverseitemiterator", "odict_iterator", "itertools.zip_longest", "itertools.pairwise"].contains n = false) (hQ : Q () s) : wpAny M A (letOwnedTupleGo tg (.ref it) u) Q E s := by
  unfold letOwnedTupleGo
  cases tg <;> first
    | exact wpAny_pure hQ
    | (cases u <;> first
        | exact wpAny_pure hQ
        | (refine wpAny_bind (wpAny_load ho ?_)
           rw [hc, hd]
           show wpAny M A (if (["enumerate", "zip", "dict_itemiterator", "dict_reverseitemiterator", "odict_iterator", "itertools.zip_longest", "itertools.pairwise"].contains n && vs[0]? == some (rawInt _)) = true then _ else _) Q E s
           rw [if_neg (by intro h; rw [hn, Bool.false_and] at h; cases h)]
           exact wpAny_pure hQ))
def Itl (K : PySem.W.Frag) (a : Addr) : It :=
  ⟨fun i H => ∃ xs x, SqL K H a xs ∧ xs[i]? = some x, fun i H x H' => H' = H ∧ ∀ xs, SqL K H a xs → xs[i]? = some x, fun i H => ∃ xs, SqL K H a xs ∧ xs.length ≤ i⟩
def Itt (K : PySem.W.Frag) (a : Addr) : It :=
  ⟨fun i H => ∃ xs x, SqT K H a xs ∧ xs[i]? = some x, fun i H x H' => H' = H ∧ ∀ xs, SqT K H a xs → xs[i]? = some x, fun i H => ∃ xs, SqT K H a xs ∧ xs.length ≤ i⟩
def Itr (lo : Int) (n : Nat) : It := ⟨fun i _ => i < n, fun i H x H' => H' = H ∧ x = .int (lo + i), fun i _ => n ≤ i⟩
theorem turn_list {P : Program} {w : World} {K : PySem.W.Frag} {tg : Expr} (a it : Addr) : Turn P w K tg (Itl K a) [it] it (fun i h => h.IsListIter it a i) where
  mem := by simp
  obj := fun i h st b hb => by
    have e : b = it := by simpa using hb
    subst e
    obtain ⟨o, e, c, d⟩ := st
    exact ⟨o, e, fun v z => by rw [d] at z; cases z⟩
  keep := fun i h h' st k => st.at fun o e => k it (by simp) o e
  item := by
    intro X hP hw hK hc i pins s σ H E I hf st hg
    subst hP hw hK
    obtain ⟨xs, x, hq, hx⟩ := hg
    obtain ⟨its, rv, p, hz⟩ := I.list hq
    obtain ⟨u, hu, ru⟩ := rv.get hx
    obtain ⟨f0, f1, f2, f3, f4, f5⟩ := hf it (by simp)
    refine wpAny_pyNext_list_item st p.isList (x := u) (by simpa using hu) fun h' st' sb => ?_
    have I1 : Inv X pins σ H { s with heap := h' } := I.turned (t' := s.toks) (fun b o hb e => (sb.2 b hb).trans e) f0 f1 f3 f4 f5
    obtain ⟨o, e, c, d⟩ := id st'
    exact ⟨u, rfl, go_of (s := { s with heap := h' }) e c d (by decide) ⟨x, H, I1, ru, ⟨rfl, fun ys hy => by rw [I.list_inj hy hq]; exact hx⟩, st', fun b hb => (hf b hb).1⟩⟩
  done := by
    intro X hP hw hK hc i pins s σ H E I hf st hg
    subst hP hw hK
    obtain ⟨xs, hq, hx⟩ := hg
    obtain ⟨its, rv, p, hz⟩ := I.list hq
    obtain ⟨f0, f1, f2, f3, f4, f5⟩ := hf it (by simp)
    have hl := rv.length
    exact wpAny_pyNext_list_end (I.ok.hd hc) st p.isList (by simp; omega) fun h' eb => ⟨rfl, I.turned (t' := s.toks) (fun b o hb e => eb b o hb e) f0 f1 f3 f4 f5⟩
  self := fun _ _ _ _ _ st h => wpAny_pyIter_listiter st h
theorem turn_tuple {P : Program} {w : World} {K : PySem.W.Frag} {tg : Expr} (a it : Addr) : Turn P w K tg (Itt K a) [it] it (fun i h => h.IsTupleIter it a i) where
  mem := by simp
  obj := fun i h st b hb => by
    have e : b = it := by simpa using hb
    subst e
    obtain ⟨o, e, c, d⟩ := st
    exact ⟨o, e, fun v z => by rw [d] at z; cases z⟩
  keep := fun i h h' st k => st.at fun o e => k it (by simp) o e
  item := by
    intro X hP hw hK hc i pins s σ H E I hf st hg
    subst hP hw hK
    obtain ⟨xs, x, hq, hx⟩ := hg
    obtain ⟨its, rv, p, hz⟩ := I.tuple hq
    obtain ⟨u, hu, ru⟩ := rv.get hx
    obtain ⟨f0, f1, f2, f3, f4, f5⟩ := hf it (by simp)
    refine wpAny_pyNext_tuple_item st (show s.heap.IsTuple a its.toArray from p) (x := u) (by simpa using hu) fun h' st' sb => ?_
    have I1 : Inv X pins σ H { s with heap := h' } := I.turned (t' := s.toks) (fun b o hb e => (sb.2 b hb).trans e) f0 f1 f3 f4 f5
    obtain ⟨o, e, c, d⟩ := id st'
    exact ⟨u, rfl, go_of (s := { s with heap := h' }) e c d (by decide) ⟨x, H, I1, ru, ⟨rfl, fun ys hy => by rw [I.tuple_inj hy hq]; exact hx⟩, st', fun b hb => (hf b hb).1⟩⟩
  done := by
    intro X hP hw hK hc i pins s σ H E I hf st hg
    subst hP hw hK
    obtain ⟨xs, hq, hx⟩ := hg
    obtain ⟨its, rv, p, hz⟩ := I.tuple hq
    obtain ⟨f0, f1, f2, f3, f4, f5⟩ := hf it (by simp)
    have hl := rv.length
    exact wpAny_pyNext_tuple_end (I.ok.hd hc) st (show s.heap.IsTuple a its.toArray from p) (by simp; omega) fun h' eb => ⟨rfl, I.turned (t' := s.toks) (fun b o hb e => eb b o hb e) f0 f1 f3 f4 f5⟩
  self := fun _ _ _ _ _ st h => wpAny_pyIter_tupleiter st h
theorem turn_range {P : Program} {w : World} {K : PySem.W.Frag} {tg : Expr} (it : Addr) (lo : Int) (n : Nat) : Turn P w K tg (Itr lo n) [it] it (fun i h => IsRangeIter h it (lo + (i : Nat) * 1) ((n : Int) - (i : Nat)) 1) where
  mem := by simp
  obj := fun i h st b hb => by
    have e : b = it := by simpa using hb
    subst e
    exact ⟨_, st, fun v z => by
      have z' : Data.fields _ = Data.cell v := z
      cases z'⟩
  keep := fun i h h' st k => k it (by simp) _ st
  item := by
    intro X hP hw hK hc i pins s σ H E I hf st hg
    subst hP hw hK
    obtain ⟨f0, f1, f2, f3, f4, f5⟩ := hf it (by simp)
    have W := Walks.range (prog := X.prog) (w := X.w) (I.ok.hd hc) it lo 1 n
    refine W.item i s _ _ hg st fun v h' tk hv st' kk => ?_
    obtain ⟨t, rfl⟩ := hv
    have I1 : Inv X pins σ H { s with heap := h', toks := tk } := I.turned (fun b o hb e => kk b o (by simpa using hb) e) f0 f1 f3 f4 f5
    refine ⟨_, rfl, go_of (s := { s with heap := h', toks := tk }) (n := "range_iterator") st' rfl rfl (by decide) ⟨.int (lo + i), H, I1, ⟨t, ?_⟩, ⟨rfl, rfl⟩, st', fun b hb => (hf b hb).1⟩⟩
    rw [Int.mul_one]
  done := by
    intro X hP hw hK hc i pins s σ H E I hf st hg
    subst hP hw hK
    obtain ⟨f0, f1, f2, f3, f4, f5⟩ := hf it (by simp)
    exact wpAny_pyNext_range_end (I.ok.hd hc) st (by have : n ≤ i := hg; omega) fun h' eb => ⟨rfl, I.turned (t' := s.toks) (fun b o hb e => eb b o hb e) f0 f1 f3 f4 f5⟩
  self := fun _ _ _ _ _ st h => wpAny_pyIter_rangeiter st h
end L2
namespace L2
open PySem PySem.Spec PyProof.Rows
section
variable {X : Cx} {tg : Expr}
def iList (K : PySem.W.Frag) (tl : TE) : TI := fun σ H R => tl σ H fun x H1 => ∃ a, x = .ref a ∧ (∃ xs, SqL K H1 a xs) ∧ R (Itl K a) H1
def iTup (K : PySem.W.Frag) (tl : TE) : TI := fun σ H R => tl σ H fun x H1 => ∃ a, x = .ref a ∧ (∃ xs, SqT K H1 a xs) ∧ R (Itt K a) H1
theorem pi_list {l : Expr} {tl : TE} (hl : PE X l tl) : PI X tg l (iList X.K tl) := by
  intro pins s σ H R I h
  refine thn (hl pins s σ H _ I h) fun v s1 ⟨x, H1, I1, r1, q1⟩ => ?_
  obtain ⟨a, e, ⟨xs, hq⟩, q⟩ := q1
  subst e
  cases r1
  obtain ⟨its, rv, p, hz⟩ := I1.list hq
  refine wpAny_pyIter_list p.isList ?_
  refine ⟨s1.heap.objs.size, [s1.heap.objs.size], _, _, H1, rfl, I1.kept (t' := s1.toks) fun b o e => Heap.get?_push_of_some _ e, turn_list a _, ⟨_, Heap.get?_push_size _ rfl, rfl, rfl⟩, fun b hb => ?_, q⟩
  have e : b = s1.heap.objs.size := by simpa using hb
  subst e
  exact I1.fpOk (Nat.le_refl _) (I1.hok.fresh (Nat.le_refl _))
theorem pi_tup {l : Expr} {tl : TE} (hl : PE X l tl) : PI X tg l (iTup X.K tl) := by
  intro pins s σ H R I h
  refine thn (hl pins s σ H _ I h) fun v s1 ⟨x, H1, I1, r1, q1⟩ => ?_
  obtain ⟨a, e, ⟨xs, hq⟩, q⟩ := q1
  subst e
  cases r1
  obtain ⟨its, rv, p, hz⟩ := I1.tuple hq
  refine wpAny_pyIter_tuple (show s1.heap.IsTuple a its.toArray from p) ?_
  refine ⟨s1.heap.objs.size, [s1.heap.objs.size], _, _, H1, rfl, I1.kept (t' := s1.toks) fun b o e => Heap.get?_push_of_some _ e, turn_tuple a _, ⟨_, Heap.get?_push_size _ rfl, rfl, rfl⟩, fun b hb => ?_, q⟩
  have e : b = s1.heap.objs.size := by simpa using hb
  subst e
  exact I1.fpOk (Nat.le_refl _) (I1.hok.fresh (Nat.le_refl _))
theorem range_it {pins : List (Addr × Obj)} {σ : St} {H : Hp} {s : Shared} {R : It → Hp → Prop} {E : Value → Shared → Prop} {lo hi : Int} {t u v : Tok} {tk : Nat} (I : Inv X pins σ H s) (h1 : -(2 ^ 62) ≤ lo) (h2 : lo < 2 ^ 62) (h3 : -(2 ^ 62) ≤ hi) (h4 : hi < 2 ^ 62)
    (q : R (Itr lo (hi - lo).toNat) H) : wpAny (model X.prog X.w) X.A (pyIter (.ref s.heap.objs.size)) (PIE X pins σ tg R) E { s with heap := s.heap.push { cls := .type "range", data := .fields #[.int lo t, .int hi u, .int 1 v] }, toks := tk } := by
  refine wpAny_pyIter_range (IsRange.new ..) (small_one h1 h2 h3 h4) ?_
  have I1 : Inv X pins σ H { s with heap := s.heap.push { cls := .type "range", data := .fields #[.int lo t, .int hi u, .int 1 v] }, toks := tk } := I.kept fun b o e => Heap.get?_push_of_some _ e
  refine ⟨(s.heap.push { cls := .type "range", data := .fields #[.int lo t, .int hi u, .int 1 v] }).objs.size, [(s.heap.push { cls := .type "range", data := .fields #[.int lo t, .int hi u, .int 1 v] }).objs.size], _, _, H, rfl,
    I1.kept (t' := tk) fun b o e => Heap.get?_push_of_some _ e, turn_range _ lo (hi - lo).toNat, ?_, fun b hb => ?_, q⟩
  · have e1 : lo + ((0 : Nat) : Int) * 1 = lo := by simp
    have e2 : (((hi - lo).toNat : Nat) : Int) - ((0 : Nat) : Int) = Builtin.Range.rangeSize lo hi 1 := by rw [rangeSize_one]; split <;> omega
    show IsRangeIter _ _ (lo + ((0 : Nat) : Int) * 1) ((((hi - lo).toNat : Nat) : Int) - ((0 : Nat) : Int)) 1
    rw [e1, e2]
    exact Heap.get?_push_size _ rfl
  · have e : b = (s.heap.push { cls := .type "range", data := .fields #[.int lo t, .int hi u, .int 1 v] }).objs.size := by simpa using hb
    subst e
    exact I1.fpOk (Nat.le_refl _) (I1.hok.fresh (Nat.le_refl _))
def iRng1 (ta : TA) : TI := fun σ H R => ta σ H fun vs H1 => ∃ j : Int, vs = [.int j] ∧ -(2 ^ 62) ≤ j ∧ j < 2 ^ 62 ∧ R (Itr 0 j.toNat) H1
theorem pi_range1 {a : Expr} {ta : TA} {p pos : Pos} (hg : Gl X "range") (hm : X.mg "range" = none) (ha : PA X [a] ta) (hs : starEach [a] X.env = [(false, eval a X.env)] := by rfl) : PI X tg (.Call (.Name "range" p) [a] [] pos) (iRng1 ta) := by
  intro pins s σ H R I h
  refine Call_ (ld_blt I hg hm boot_range (PyProof.Rows.callWith_type1 (thn (ha pos pins s σ H _ I h) fun us s1 ⟨vs, H1, I1, r1, q1⟩ => ?_) hs rfl))
  obtain ⟨j, e, q1, q2, q⟩ := q1
  subst e
  cases r1 with
  | cons r rr =>
    cases rr
    obtain ⟨t, rfl⟩ := r
    exact call_range_1 (range_it I1 (by omega) (by omega) q1 q2 (by simpa using q))
def tFor (wi : TI) (g : TG) (tb : TS) : TS := fun D σ H => wi σ H fun J H1 => ∃ W : Nat → Nat → St → Hp → Prop, (∃ m, W 0 m σ H1) ∧ ∀ i m σ H, W i m σ H →
  (J.stop i H ∧ D.nx σ H) ∨ (J.go i H ∧ ∃ N : St → Hp → Prop, (∀ σ' H', N σ' H' → ∃ m', m' < m ∧ W (i + 1) m' σ' H') ∧ ∀ x H', J.yld i H x H' → g x σ H' fun σ2 H2 => tb { D with nx := N, ct := N, bk := D.nx } σ2 H2)
def pinsAt (fp : List Addr) (h : Heap) : List (Addr × Obj) := fp.filterMap fun b => (h.get? b).map fun o => (b, o)
theorem mem_pinsAt {fp : List Addr} {h : Heap} {b : Addr} {o : Obj} (hb : b ∈ fp) (e : h.get? b = some o) : (b, o) ∈ pinsAt fp h := List.mem_filterMap.mpr ⟨b, hb, by rw [e]; rfl⟩
theorem of_pinsAt {fp : List Addr} {h : Heap} {p : Addr × Obj} (hp : p ∈ pinsAt fp h) : p.1 ∈ fp ∧ h.get? p.1 = some p.2 := by
  obtain ⟨b, hb, e⟩ := List.mem_filterMap.mp hp
  cases q : h.get? b with
  | none => rw [q] at e; cases e
  | some o =>
    rw [q] at e
    have e' : (b, o) = p := Option.some.inj e
    subst e'
    exact ⟨hb, q⟩
theorem Inv.pinned {pins : List (Addr × Obj)} {σ : St} {H : Hp} {s : Shared} {fp : List Addr} (I : Inv X pins σ H s) (hf : ∀ b ∈ fp, FpOk X pins H b) (ho : ∀ b ∈ fp, ∃ o, s.heap.get? b = some o ∧ ∀ v, o.data ≠ .cell v) : Inv X (pins ++ pinsAt fp s.heap) σ H s :=
  I.pins_of fun p hp => (List.mem_append.mp hp).elim (fun z => I.pin p (List.mem_append_right _ z)) fun z => by
    obtain ⟨hb, e⟩ := of_pinsAt z
    obtain ⟨f0, f1, f2, _⟩ := hf p.1 hb
    obtain ⟨o, e', d⟩ := ho p.1 hb
    rw [e] at e'; cases e'
    exact ⟨e, f0, f1, f2, d⟩
theorem Inv.unpinned {pins pl : List (Addr × Obj)} {σ : St} {H : Hp} {s : Shared} (I : Inv X (pins ++ pl) σ H s) : Inv X pins σ H s := I.pins_of fun p hp => I.pin p (List.mem_append_right _ (List.mem_append_left _ hp))
theorem ps_for {iter : Expr} {body : List Stmt} {wi : TI} {g : TG} {tb : TS} {pos : Pos} (hp : PassesOwn (model X.prog X.w) X.A X.env X.xe) (hc : X.calm = true) (hi : PI X tg iter wi) (hg : PG X tg g) (hb : PSs X body tb)
    (hs : ∀ x, foldedSetIterable iter X.env x = pure x := by intro _; rfl) : PS X (.For tg iter body [] pos) (tFor wi g tb) := by
  intro pins s σ H D I h
  refine wpAny_For (thn (hi pins s σ H _ I h) fun v s1 h1 => thn h1 fun itv s2 h2 => ?_) hs
  obtain ⟨it, fp, tn, J, H2, e, I2, T, st2, f2, W, ⟨m0, w0⟩, turn⟩ := h2
  subst e
  -- what stays true of the iterator's objects through the loop
  have stat : ∀ {H' : Hp}, (∀ b ∈ fp, H' b = none) → ∀ b ∈ fp, FpOk X pins H' b := fun hn b hb => ⟨hn b hb, (f2 b hb).2⟩
  refine codeAny_forLoop_any (fun n s' => ∃ i σ' H', Inv X pins σ' H' s' ∧ tn i s'.heap ∧ (∀ b ∈ fp, H' b = none) ∧ W i n σ' H') ?_ m0 ⟨0, σ, H2, I2, st2, fun b hb => (f2 b hb).1, w0⟩
  rintro n s3 ⟨i, σ3, H3, I3, st3, fr3, w3⟩
  rcases turn i n σ3 H3 w3 with ⟨stop, qn⟩ | ⟨go, N, hN, step⟩
  · refine wpAny_passesOwn hp (thn (T.done X rfl rfl rfl hc i pins s3 σ3 H3 X.xe I3 (stat fr3) st3 stop) fun r s4 ⟨hr, I4⟩ => ?_)
    subst hr
    exact wpAny_execs_nil ⟨σ3, H3, I4, qn⟩
  · refine wpAny_passesOwn hp (thn (T.item X rfl rfl rfl hc i pins s3 σ3 H3 X.xe I3 (stat fr3) st3 go) fun r s4 ⟨u, hr, h4⟩ => ?_)
    subst hr
    refine wpAny_passesOwn hp (thn h4 fun _ s5 ⟨x, H5, I5, r5, y5, st5, fr5⟩ => ?_)
    have I5' := I5.pinned (stat fr5) (T.obj _ _ st5)
    refine wpAny_passesOwn hp (thn (hg _ s5 σ3 H5 x u _ I5' r5 (step x H5 y5)) fun _ s6 ⟨σ6, H6, I6, q6⟩ => ?_)
    refine wpAny_passesOwn hp (thn (hb _ s6 σ6 H6 _ I6 q6) fun f s7 q7 => ?_)
    have again : ∀ {σ7 : St} {H7 : Hp}, Inv X (pins ++ pinsAt fp s5.heap) σ7 H7 s7 → N σ7 H7 → ∃ m, m < n ∧ ∃ i σ' H', Inv X pins σ' H' s7 ∧ tn i s7.heap ∧ (∀ b ∈ fp, H' b = none) ∧ W i m σ' H' := fun {σ7 H7} I7 n7 => by
      obtain ⟨m', hm, w7⟩ := hN σ7 H7 n7
      refine ⟨m', hm, i + 1, σ7, H7, I7.unpinned, T.keep _ _ _ st5 fun b hb o e => (I7.pin (b, o) (List.mem_append_right _ (List.mem_append_right _ (mem_pinsAt hb e)))).1, fun b hb => ?_, w7⟩
      obtain ⟨o, e, d⟩ := T.obj _ _ st5 b hb
      exact (I7.pin (b, o) (List.mem_append_right _ (List.mem_append_right _ (mem_pinsAt hb e)))).2.1
    cases f with
    | next => obtain ⟨σ7, H7, I7, n7⟩ := q7; exact again I7 n7
    | cont => obtain ⟨σ7, H7, I7, n7⟩ := q7; exact again I7 n7
    | brk => obtain ⟨σ7, H7, I7, q7⟩ := q7; exact ⟨σ7, H7, I7.unpinned, q7⟩
    | ret v => obtain ⟨x7, σ7, H7, I7, r7, q7⟩ := q7; exact ⟨x7, σ7, H7, I7.unpinned, r7, q7⟩
end
theorem for_list {K : PySem.W.Frag} {a : Addr} {xs : List V} {g : TG} {tb : TS} {D : Ends} {σ : St} {H : Hp} (Pv : Nat → St → Hp → Prop) (h0 : Pv 0 σ H) (hl : ∀ i σ H, i ≤ xs.length → Pv i σ H → SqL K H a xs)
    (hs : ∀ i x σ H, xs[i]? = some x → Pv i σ H → g x σ H fun σ2 H2 => tb { D with nx := Pv (i + 1), ct := Pv (i + 1), bk := D.nx } σ2 H2) (hd : ∀ σ H, Pv xs.length σ H → D.nx σ H) :
    ∃ W : Nat → Nat → St → Hp → Prop, (∃ m, W 0 m σ H) ∧ ∀ i m σ H, W i m σ H →
      ((Itl K a).stop i H ∧ D.nx σ H) ∨ ((Itl K a).go i H ∧ ∃ N : St → Hp → Prop, (∀ σ' H', N σ' H' → ∃ m', m' < m ∧ W (i + 1) m' σ' H') ∧ ∀ x H', (Itl K a).yld i H x H' → g x σ H' fun σ2 H2 => tb { D with nx := N, ct := N, bk := D.nx } σ2 H2) := by
  refine ⟨fun i m σ H => m = xs.length - i ∧ i ≤ xs.length ∧ Pv i σ H, ⟨xs.length, by simp, Nat.zero_le _, h0⟩, ?_⟩
  rintro i m σ H ⟨rfl, hi, p⟩
  have q := hl i σ H hi p
  by_cases hlt : i < xs.length
  · refine .inr ⟨⟨xs, xs[i], q, by simp [hlt]⟩, Pv (i + 1), fun σ' H' p' => ⟨xs.length - (i + 1), by omega, rfl, hlt, p'⟩, fun x H' y => ?_⟩
    obtain ⟨e, y⟩ := y
    subst e
    exact hs i x σ _ (y xs q) p
  · have e : i = xs.length := by omega
    subst e
    exact .inl ⟨⟨xs, q, Nat.le_refl _⟩, hd σ H p⟩
theorem for_tup {K : PySem.W.Frag} {a : Addr} {xs : List V} {g : TG} {tb : TS} {D : Ends} {σ : St} {H : Hp} (Pv : Nat → St → Hp → Prop) (h0 : Pv 0 σ H) (hl : ∀ i σ H, i ≤ xs.length → Pv i σ H → SqT K H a xs)
    (hs : ∀ i x σ H, xs[i]? = some x → Pv i σ H → g x σ H fun σ2 H2 => tb { D with nx := Pv (i + 1), ct := Pv (i + 1), bk := D.nx } σ2 H2) (hd : ∀ σ H, Pv xs.length σ H → D.nx σ H) :
    ∃ W : Nat → Nat → St → Hp → Prop, (∃ m, W 0 m σ H) ∧ ∀ i m σ H, W i m σ H →
      ((Itt K a).stop i H ∧ D.nx σ H) ∨ ((Itt K a).go i H ∧ ∃ N : St → Hp → Prop, (∀ σ' H', N σ' H' → ∃ m', m' < m ∧ W (i + 1) m' σ' H') ∧ ∀ x H', (Itt K a).yld i H x H' → g x σ H' fun σ2 H2 => tb { D with nx := N, ct := N, bk := D.nx } σ2 H2) := by
  refine ⟨fun i m σ H => m = xs.length - i ∧ i ≤ xs.length ∧ Pv i σ H, ⟨xs.length, by simp, Nat.zero_le _, h0⟩, ?_⟩
  rintro i m σ H ⟨rfl, hi, p⟩
  have q := hl i σ H hi p
  by_cases hlt : i < xs.length
  · refine .inr ⟨⟨xs, xs[i], q, by simp [hlt]⟩, Pv (i + 1), fun σ' H' p' => ⟨xs.length - (i + 1), by omega, rfl, hlt, p'⟩, fun x H' y => ?_⟩
    obtain ⟨e, y⟩ := y
    subst e
    exact hs i x σ _ (y xs q) p
  · have e : i = xs.length := by omega
    subst e
    exact .inl ⟨⟨xs, q, Nat.le_refl _⟩, hd σ H p⟩
theorem for_range {lo : Int} {n : Nat} {g : TG} {tb : TS} {D : Ends} {σ : St} {H : Hp} (Pv : Nat → St → Hp → Prop) (h0 : Pv 0 σ H)
    (hs : ∀ i σ H, i < n → Pv i σ H → g (.int (lo + i)) σ H fun σ2 H2 => tb { D with nx := Pv (i + 1), ct := Pv (i + 1), bk := D.nx } σ2 H2) (hd : ∀ σ H, Pv n σ H → D.nx σ H) :
    ∃ W : Nat → Nat → St → Hp → Prop, (∃ m, W 0 m σ H) ∧ ∀ i m σ H, W i m σ H →
      ((Itr lo n).stop i H ∧ D.nx σ H) ∨ ((Itr lo n).go i H ∧ ∃ N : St → Hp → Prop, (∀ σ' H', N σ' H' → ∃ m', m' < m ∧ W (i + 1) m' σ' H') ∧ ∀ x H', (Itr lo n).yld i H x H' → g x σ H' fun σ2 H2 => tb { D with nx := N, ct := N, bk := D.nx } σ2 H2) := by
  refine ⟨fun i m σ H => m = n - i ∧ i ≤ n ∧ Pv i σ H, ⟨n, by simp, Nat.zero_le _, h0⟩, ?_⟩
  rintro i m σ H ⟨rfl, hi, p⟩
  by_cases hlt : i < n
  · refine .inr ⟨hlt, Pv (i + 1), fun σ' H' p' => ⟨n - (i + 1), by omega, rfl, hlt, p'⟩, fun x H' y => ?_⟩
    obtain ⟨e, y⟩ := y
    subst e y
    exact hs i σ _ hlt p
  · have e : i = n := by omega
    subst e
    exact .inl ⟨Nat.le_refl _, hd σ H p⟩
end L2
namespace L2
open PySem PySem.Spec PyProof.Rows
abbrev R2 := V → V → Hp → VK → Prop
def OpR (X : Cx) (f : Value → Value → Sem Value) (r : R2) : Prop :=
  ∀ (pins : List (Addr × Obj)) (s : Shared) (σ : St) (H : Hp) (x y : V) (v u : Value) (Q : VK), Inv X pins σ H s → RelV x v → RelV y u → r x y H Q →
    wpAny (model X.prog X.w) X.A (f v u) (EP X pins σ Q) X.xe s
def CallR (X : Cx) (f : Value) (r : List V → Hp → VK → Prop) : Prop :=
  ∀ (pins : List (Addr × Obj)) (s : Shared) (σ : St) (H : Hp) (xs : List V) (us : List Value) (Q : VK), Inv X pins σ H s → Vals xs us → r xs H Q →
    wpAny (model X.prog X.w) X.A (call f us) (EP X pins σ Q) X.xe s
def TruR (X : Cx) (r : V → Hp → (Bool → Hp → Prop) → Prop) : Prop :=
  ∀ (pins : List (Addr × Obj)) (s : Shared) (σ : St) (H : Hp) (x : V) (v : Value) (Q : Bool → Hp → Prop), Inv X pins σ H s → RelV x v → r x H Q →
    wpAny (model X.prog X.w) X.A (truthy v) (TP X pins σ Q) X.xe s
def tOp (r : R2) (ta tb : TE) : TE := fun σ H Q => ta σ H fun x H1 => tb σ H1 fun y H2 => r x y H2 Q
def rI (C : Int → Int → Prop) (g : Int → Int → V) : R2 := fun x y H Q => ∃ i j, x = .int i ∧ y = .int j ∧ C i j ∧ Q (g i j) H
def rI0 (g : Int → Int → V) : R2 := fun x y H Q => ∃ i j, x = .int i ∧ y = .int j ∧ Q (g i j) H
section
variable {X : Cx} {a b c : Expr} {ta tb tc : TE} {pos : Pos}
theorem binT (ha : PE X a ta) (hb : PE X b tb) {pins : List (Addr × Obj)} {s : Shared} {σ : St} {H : Hp} {R : V → V → Hp → Prop} (I : Inv X pins σ H s)
    (h : ta σ H fun x H1 => tb σ H1 fun y H2 => R x y H2) {Q : Value → Shared → Prop} {f : Value → Value → Sem Value}
    (hf : ∀ v u s2 x y H2, Inv X pins σ H2 s2 → RelV x v → RelV y u → R x y H2 → wpAny (model X.prog X.w) X.A (f v u) Q X.xe s2) :
    wpAny (model X.prog X.w) X.A (eval a X.env) (fun v s₁ => wpAny (model X.prog X.w) X.A (eval b X.env) (fun u s₂ => wpAny (model X.prog X.w) X.A (f v u) Q X.xe s₂) X.xe s₁) X.xe s := by
  refine thn (ha pins s σ H _ I h) fun v s1 ⟨x, H1, I1, r1, q1⟩ => ?_
  refine thn (hb pins s1 σ H1 _ I1 q1) fun u s2 ⟨y, H2, I2, r2, q2⟩ => ?_
  exact hf v u s2 x y H2 I2 r1 r2 q2
theorem pe_op {op : Operator} {r : R2} (ho : OpR X (binaryOp op) r) (ha : PE X a ta) (hb : PE X b tb) : PE X (.BinOp a op b pos) (tOp r ta tb) := by
  intro pins s σ H Q I h
  exact wpAny_BinOp (binT ha hb I h fun v u s2 x y H2 I2 rx ry q => ho pins s2 σ H2 x y v u Q I2 rx ry q)
theorem opI {f : Value → Value → Sem Value} {C : Int → Int → Prop} {g : Int → Int → Int}
    (rule : ∀ (i j : Int) (t u : Tok) (s : Shared) (Q : Value → Shared → Prop) (E : Value → Shared → Prop), C i j → Q (.int (g i j) s.toks) { s with toks := s.toks + 1 } → wpAny (model X.prog X.w) X.A (f (.int i t) (.int j u)) Q E s) :
    OpR X f (rI C fun i j => .int (g i j)) := by
  intro pins s σ H x y v u Q I rx ry h
  obtain ⟨i, j, rfl, rfl, hc, q⟩ := h
  obtain ⟨t, rfl⟩ := rx
  obtain ⟨t', rfl⟩ := ry
  exact rule i j t t' s _ _ hc ⟨.int (g i j), H, I.tok _, ⟨_, rfl⟩, q⟩
theorem opI0 {f : Value → Value → Sem Value} {g : Int → Int → Int}
    (rule : ∀ (i j : Int) (t u : Tok) (s : Shared) (Q : Value → Shared → Prop) (E : Value → Shared → Prop), Q (.int (g i j) s.toks) { s with toks := s.toks + 1 } → wpAny (model X.prog X.w) X.A (f (.int i t) (.int j u)) Q E s) :
    OpR X f (rI0 fun i j => .int (g i j)) := by
  intro pins s σ H x y v u Q I rx ry h
  obtain ⟨i, j, rfl, rfl, q⟩ := h
  obtain ⟨t, rfl⟩ := rx
  obtain ⟨t', rfl⟩ := ry
  exact rule i j t t' s _ _ ⟨.int (g i j), H, I.tok _, ⟨_, rfl⟩, q⟩
theorem opB0 {f : Value → Value → Sem Value} {g : Int → Int → Bool}
    (rule : ∀ (i j : Int) (t u : Tok) (s : Shared) (Q : Value → Shared → Prop) (E : Value → Shared → Prop), Q (.bool (g i j)) s → wpAny (model X.prog X.w) X.A (f (.int i t) (.int j u)) Q E s) :
    OpR X f (rI0 fun i j => .bl (g i j)) := by
  intro pins s σ H x y v u Q I rx ry h
  obtain ⟨i, j, rfl, rfl, q⟩ := h
  obtain ⟨t, rfl⟩ := rx
  obtain ⟨t', rfl⟩ := ry
  exact rule i j t t' s _ _ ⟨.bl (g i j), H, I, rfl, q⟩
def CDiv (i j : Int) : Prop := 0 < j ∧ j < 1073741824
def CPow (i j : Int) : Prop := 0 ≤ j ∧ j ≤ 1000000 ∧ i.natAbs < 2 ^ 64
def CMul (i j : Int) : Prop := (-(2 ^ 64) < i ∧ i < 2 ^ 64) ∨ (-(2 ^ 64) < j ∧ j < 2 ^ 64)
theorem CMul.ok {i j : Int} (h : CMul i j) : IntMulOk i j := by
  rcases h with ⟨h1, h2⟩ | ⟨h1, h2⟩
  · exact .of_left (intBits_le_64 h1 h2)
  · exact .of_right (intBits_le_64 h1 h2)
theorem op_add : OpR X (binaryOp .Add) (rI0 fun i j => .int (i + j)) := opI0 fun _ _ _ _ _ _ _ q => add_int q
theorem op_sub : OpR X (binaryOp .Sub) (rI0 fun i j => .int (i - j)) := opI0 fun _ _ _ _ _ _ _ q => sub_int q
theorem op_mul : OpR X (binaryOp .Mult) (rI CMul fun i j => .int (i * j)) := opI fun _ _ _ _ _ _ _ hc q => mul_int q hc.ok
theorem op_fdiv : OpR X (binaryOp .FloorDiv) (rI CDiv fun i j => .int (i / j)) := opI fun i j _ _ _ _ _ hc q => by
  have h1 : (0 : Int) < j := hc.1
  have h2 : j < 1073741824 := hc.2
  exact floordiv_int (by omega) (by rw [Int.fdiv_eq_ediv_of_nonneg i (by omega)]; exact q) (.inl (PyProof.noPylong_small (by omega)))
theorem op_mod : OpR X (binaryOp .Mod) (rI (fun _ j => 0 < j) fun i j => .int (i % j)) := opI fun i j _ _ _ _ _ hc q => by
  have h1 : (0 : Int) < j := hc
  exact mod_int' (by omega) (by rw [Int.fmod_eq_emod_of_nonneg i (by omega)]; exact q)
theorem op_pow : OpR X (binaryOp .Pow) (rI CPow fun i j => .int (i ^ j.toNat)) := opI fun _ _ _ _ _ _ _ hc q => pow_int_small hc.1 hc.2.1 hc.2.2 q
theorem op_shl : OpR X (binaryOp .LShift) (rI CPow fun i j => .int (i * 2 ^ j.toNat)) := opI fun _ _ _ _ _ _ _ hc q => lshift_int_small hc.1 hc.2.1 hc.2.2 q
end
def scal : V → V → Bool
  | .non, .non => true | .non, .int _ => true | .int _, .non => true | .non, .bl _ => true | .bl _, .non => true | .non, .str _ => true | .str _, .non => true
  | .int _, .int _ => true | .bl _, .bl _ => true | .str _, .str _ => true | .byt _, .byt _ => true
  | .int _, .str _ => true | .str _, .int _ => true | .bl _, .str _ => true | .str _, .bl _ => true
  | _, _ => false
def rEq : R2 := fun x y H Q => scal x y = true ∧ Q (.bl (decide (x = y))) H
def rNe : R2 := fun x y H Q => scal x y = true ∧ Q (.bl (!decide (x = y))) H
theorem dec_int {i j : Int} : decide (V.int i = V.int j) = (i == j) := by
  rw [Bool.eq_iff_iff]
  simp
theorem dec_bl {i j : Bool} : decide (V.bl i = V.bl j) = (i == j) := by
  rw [Bool.eq_iff_iff]
  simp
theorem dec_str {i j : Str} : decide (V.str i = V.str j) = (i == j) := by
  rw [Bool.eq_iff_iff]
  simp
theorem dec_byt {i j : Array UInt8} : decide (V.byt i = V.byt j) = (i.toList == j.toList) := by
  rw [Bool.eq_iff_iff]
  cases i
  cases j
  simp
section
variable {X : Cx} {a b c : Expr} {ta tb tc : TE} {pos : Pos}
theorem fin_bl {pins : List (Addr × Obj)} {σ : St} {H : Hp} {s : Shared} {Q : VK} {k k' : Bool} (I : Inv X pins σ H s) (q : Q (.bl k) H) (e : k = k') : EP X pins σ Q (.bool k') s := by
  subst e
  exact ⟨.bl k, H, I, rfl, q⟩
theorem op_eq : OpR X (compareOp .Eq) rEq := by
  intro pins s σ H x y v u Q I rx ry h
  obtain ⟨hs, q⟩ := h
  cases x with
  | non =>
    cases rx
    cases y with
    | non => cases ry; exact PySem.EqNone.eq_none_none (fin_bl I q (by simp))
    | bl j => cases ry; exact PySem.EqNone.eq_none_bool (fin_bl I q (by simp))
    | int j => obtain ⟨t', rfl⟩ := ry; exact PySem.EqNone.eq_none_int (fin_bl I q (by simp))
    | str j => obtain ⟨t', rfl⟩ := ry; exact PySem.EqNone.eq_none_str (fin_bl I q (by simp))
    | _ => exact absurd (show false = true from hs) Bool.false_ne_true
  | bl i =>
    cases rx
    cases y with
    | non => cases ry; exact PySem.EqNone.eq_bool_none (fin_bl I q (by simp))
    | bl j => cases ry; exact eq_bool (fin_bl I q dec_bl)
    | str j => obtain ⟨t', rfl⟩ := ry; exact PySem.EqMixed.eq_bool_str (fin_bl I q (by simp))
    | _ => exact absurd (show false = true from hs) Bool.false_ne_true
  | int i =>
    obtain ⟨t, rfl⟩ := rx
    cases y with
    | non => cases ry; exact PySem.EqNone.eq_int_none (fin_bl I q (by simp))
    | int j => obtain ⟨t', rfl⟩ := ry; exact eq_int (fin_bl I q dec_int)
    | str j => obtain ⟨t', rfl⟩ := ry; exact PySem.EqMixed.eq_int_str (fin_bl I q (by simp))
    | _ => exact absurd (show false = true from hs) Bool.false_ne_true
  | str i =>
    obtain ⟨t, rfl⟩ := rx
    cases y with
    | non => cases ry; exact PySem.EqNone.eq_str_none (fin_bl I q (by simp))
    | bl j => cases ry; exact PySem.EqMixed.eq_str_bool (fin_bl I q (by simp))
    | int j => obtain ⟨t', rfl⟩ := ry; exact PySem.EqMixed.eq_str_int (fin_bl I q (by simp))
    | str j => obtain ⟨t', rfl⟩ := ry; exact eq_str (fin_bl I q dec_str)
    | _ => exact absurd (show false = true from hs) Bool.false_ne_true
  | byt i =>
    obtain ⟨t, rfl⟩ := rx
    cases y with
    | byt j => obtain ⟨t', rfl⟩ := ry; exact PySem.W.eq_bytes (fin_bl I q dec_byt)
    | _ => exact absurd (show false = true from hs) Bool.false_ne_true
  | _ => cases y <;> exact absurd (show false = true from hs) Bool.false_ne_true
theorem op_ne : OpR X (compareOp .NotEq) rNe := by
  intro pins s σ H x y v u Q I rx ry h
  obtain ⟨hs, q⟩ := h
  cases x with
  | non =>
    cases rx
    cases y with
    | non => cases ry; exact PySem.EqNone.ne_none_none (fin_bl I q (by simp))
    | bl j => cases ry; exact PySem.EqNone.ne_none_bool (fin_bl I q (by simp))
    | int j => obtain ⟨t', rfl⟩ := ry; exact PySem.EqNone.ne_none_int (fin_bl I q (by simp))
    | str j => obtain ⟨t', rfl⟩ := ry; exact PySem.EqNone.ne_none_str (fin_bl I q (by simp))
    | _ => exact absurd (show false = true from hs) Bool.false_ne_true
  | bl i =>
    cases rx
    cases y with
    | non => cases ry; exact PySem.EqNone.ne_bool_none (fin_bl I q (by simp))
    | bl j => cases ry; exact ne_bool (fin_bl I q (congrArg not dec_bl))
    | str j => obtain ⟨t', rfl⟩ := ry; exact PySem.EqMixed.ne_bool_str (fin_bl I q (by simp))
    | _ => exact absurd (show false = true from hs) Bool.false_ne_true
  | int i =>
    obtain ⟨t, rfl⟩ := rx
    cases y with
    | non => cases ry; exact PySem.EqNone.ne_int_none (fin_bl I q (by simp))
    | int j => obtain ⟨t', rfl⟩ := ry; exact ne_int (fin_bl I q (congrArg not dec_int))
    | str j => obtain ⟨t', rfl⟩ := ry; exact PySem.EqMixed.ne_int_str (fin_bl I q (by simp))
    | _ => exact absurd (show false = true from hs) Bool.false_ne_true
  | str i =>
    obtain ⟨t, rfl⟩ := rx
    cases y with
    | non => cases ry; exact PySem.EqNone.ne_str_none (fin_bl I q (by simp))
    | bl j => cases ry; exact PySem.EqMixed.ne_str_bool (fin_bl I q (by simp))
    | int j => obtain ⟨t', rfl⟩ := ry; exact PySem.EqMixed.ne_str_int (fin_bl I q (by simp))
    | str j => obtain ⟨t', rfl⟩ := ry; exact ne_str (fin_bl I q (congrArg not dec_str))
    | _ => exact absurd (show false = true from hs) Bool.false_ne_true
  | byt i =>
    obtain ⟨t, rfl⟩ := rx
    cases y with
    | byt j => obtain ⟨t', rfl⟩ := ry; exact PySem.W.ne_bytes (fin_bl I q (congrArg not dec_byt))
    | _ => exact absurd (show false = true from hs) Bool.false_ne_true
  | _ => cases y <;> exact absurd (show false = true from hs) Bool.false_ne_true
theorem op_lt : OpR X (compareOp .Lt) (rI0 fun i j => .bl (decide (i < j))) := opB0 fun _ _ _ _ _ _ _ q => lt_int q
theorem op_le : OpR X (compareOp .LtE) (rI0 fun i j => .bl (decide (i ≤ j))) := opB0 fun _ _ _ _ _ _ _ q => le_int q
theorem op_gt : OpR X (compareOp .Gt) (rI0 fun i j => .bl (decide (j < i))) := opB0 fun _ _ _ _ _ _ _ q => gt_int q
theorem op_ge : OpR X (compareOp .GtE) (rI0 fun i j => .bl (decide (j ≤ i))) := opB0 fun _ _ _ _ _ _ _ q => ge_int q
theorem op_in_str : OpR X (compareOp .In) (fun x y H Q => ∃ i j, x = .str i ∧ y = .str j ∧ Q (.bl (!(Builtin.Str.occurrences j i 0 j.length 1).isEmpty)) H) := by
  intro pins s σ H x y v u Q I rx ry h
  obtain ⟨i, j, rfl, rfl, q⟩ := h
  obtain ⟨t, rfl⟩ := rx
  obtain ⟨t', rfl⟩ := ry
  exact in_str (fin_bl I q rfl)
theorem op_isN : OpR X (compareOp .Is) (fun x y H Q => y = .non ∧ Q (.bl (decide (x = .non))) H) := by
  intro pins s σ H x y v u Q I rx ry h
  obtain ⟨rfl, q⟩ := h
  cases ry
  refine is_none_gen (fin_bl I q ?_)
  cases x <;> first
    | (cases rx; rfl)
    | (obtain ⟨t, rfl⟩ := rx; rfl)
theorem op_notN : OpR X (compareOp .IsNot) (fun x y H Q => y = .non ∧ Q (.bl (!decide (x = .non))) H) := by
  intro pins s σ H x y v u Q I rx ry h
  obtain ⟨rfl, q⟩ := h
  cases ry
  refine isnot_none_gen (fin_bl I q ?_)
  cases x <;> first
    | (cases rx; rfl)
    | (obtain ⟨t, rfl⟩ := rx; rfl)
theorem op_notin_str : OpR X (compareOp .NotIn) (fun x y H Q => ∃ i j, x = .str i ∧ y = .str j ∧ Q (.bl (!(!(Builtin.Str.occurrences j i 0 j.length 1).isEmpty))) H) := by
  intro pins s σ H x y v u Q I rx ry h
  obtain ⟨i, j, rfl, rfl, q⟩ := h
  obtain ⟨t, rfl⟩ := rx
  obtain ⟨t', rfl⟩ := ry
  exact notIn_str (fin_bl I q rfl)
theorem nomark (b : Expr) {op : CmpOp} (h : op ≠ .In := by decide) (h2 : op ≠ .NotIn := by decide) : behindInMarks op b = false := by
  have e1 : (op == CmpOp.In) = false := by cases op <;> first | rfl | exact absurd rfl h
  have e2 : (op == CmpOp.NotIn) = false := by cases op <;> first | rfl | exact absurd rfl h2
  cases b <;> simp [behindInMarks, e1, e2]
theorem pe_cmpR {op : CmpOp} {r : R2} (ho : OpR X (compareOp op) r) (ha : PE X a ta) (hb : PE X b tb) (hm : behindInMarks op b = false) : PE X (.Compare a [op] [b] pos) (tOp r ta tb) := by
  intro pins s σ H Q I h
  exact wpAny_Compare1 (binT ha hb I h fun v u s2 x y H2 I2 rx ry q => ho pins s2 σ H2 x y v u Q I2 rx ry q) hm
def tTest (t : TE) : TT := fun σ H Q => t σ H fun x H' => ∃ k, x = .bl k ∧ Q k H'
theorem pt_cmpR {op : CmpOp} {r : R2} (ho : OpR X (compareOp op) r) (ha : PE X a ta) (hb : PE X b tb) (hm : behindInMarks op b = false) : PT X (.Compare a [op] [b] pos) (tTest (tOp r ta tb)) := by
  intro pins s σ H Q I h
  refine wpAny_isTrue_Compare1 (thn (ha pins s σ H _ I h) fun v s1 ⟨x, H1, I1, r1, q1⟩ => thn (hb pins s1 σ H1 _ I1 q1) fun u s2 ⟨y, H2, I2, r2, q2⟩ =>
    thn (ho pins s2 σ H2 x y v u _ I2 r1 r2 q2) fun c s3 ⟨z, H3, I3, r3, k, e, q3⟩ => ?_) hm
  subst e
  cases r3
  exact wpAny_truthy_bool ⟨H3, I3, q3⟩
def tChain (r r' : R2) (ta tb tc : TE) : TE := fun σ H Q => ta σ H fun x H1 => tb σ H1 fun y H2 => r x y H2 fun z H3 => ∃ k, z = .bl k ∧
  (if k = true then tc σ H3 fun w' H4 => r' y w' H4 Q else Q (.bl false) H3)
theorem pe_chain {op op' : CmpOp} {r r' : R2} (ho : OpR X (compareOp op) r) (ho' : OpR X (compareOp op') r') (ha : PE X a ta) (hb : PE X b tb) (hc : PE X c tc)
    (hm : lastMarks [op, op'] [b, c] = false := by with_unfolding_all rfl) : PE X (.Compare a [op, op'] [b, c] pos) (tChain r r' ta tb tc) := by
  intro pins s σ H Q I h
  refine Compare_chain (thn (ha pins s σ H _ I h) fun v s1 ⟨x, H1, I1, r1, q1⟩ => chain_link (thn (hb pins s1 σ H1 _ I1 q1) fun u s2 ⟨y, H2, I2, r2, q2⟩ =>
    thn (ho pins s2 σ H2 x y v u _ I2 r1 r2 q2) fun d s3 ⟨z, H3, I3, r3, k, e, q3⟩ => ?_)) hm
  subst e
  cases r3
  refine wpAny_truthy_bool ?_
  cases k with
  | false => exact ite_ff ⟨.bl false, H3, I3, rfl, q3⟩
  | true => exact ite_tt (chain_last (thn (hc pins s3 σ H3 _ I3 q3) fun w' s4 ⟨z', H4, I4, r4, q4⟩ => ho' pins s4 σ H4 y z' u w' Q I4 r2 r4 q4))
theorem pt_chain {op op' : CmpOp} {r r' : R2} (ho : OpR X (compareOp op) r) (ho' : OpR X (compareOp op') r') (ha : PE X a ta) (hb : PE X b tb) (hc : PE X c tc)
    (hm : lastMarks [op, op'] [b, c] = false := by with_unfolding_all rfl) : PT X (.Compare a [op, op'] [b, c] pos) (tTest (tChain r r' ta tb tc)) := by
  intro pins s σ H Q I h
  refine isTrue_chain (thn (ha pins s σ H _ I h) fun v s1 ⟨x, H1, I1, r1, q1⟩ => test_link (thn (hb pins s1 σ H1 _ I1 q1) fun u s2 ⟨y, H2, I2, r2, q2⟩ =>
    thn (ho pins s2 σ H2 x y v u _ I2 r1 r2 q2) fun d s3 ⟨z, H3, I3, r3, k, e, q3⟩ => ?_)) hm
  subst e
  cases r3
  refine wpAny_truthy_bool ?_
  cases k with
  | false =>
    obtain ⟨k', e', q'⟩ := q3
    cases e'
    exact ite_ff ⟨H3, I3, q'⟩
  | true =>
    refine ite_tt (test_last (thn (hc pins s3 σ H3 _ I3 q3) fun w' s4 ⟨z', H4, I4, r4, q4⟩ => thn (ho' pins s4 σ H4 y z' u w' _ I4 r2 r4 q4) fun d' s5 ⟨z2, H5, I5, r5, k2, e2, q5⟩ => ?_))
    subst e2
    cases r5
    exact wpAny_truthy_bool ⟨H5, I5, q5⟩
def TruV (K : PySem.W.Frag) (x : V) (H : Hp) (k : Bool) : Prop :=
  match x with
  | .non => k = false
  | .bl b => k = b
  | .int i => k = (i != 0)
  | .str y => y.length ≤ sizeLine ∧ k = ((y.length : Int) != 0)
  | .byt y => y.size ≤ sizeLine ∧ k = ((y.size : Int) != 0)
  | .ref p => (∃ xs, SqL K H p xs ∧ k = !xs.isEmpty) ∨ (∃ xs, SqT K H p xs ∧ k = !xs.isEmpty) ∨ ∃ kvs, H p = some (.dK kvs) ∧ k = !kvs.isEmpty
  | _ => False
theorem isEmpty_kv {κ : Type} {kvs : List (κ × V)} {vs : List (κ × Value)} (r : KV kvs vs) : (!vs.isEmpty) = !kvs.isEmpty := by
  cases r <;> rfl
theorem isEmpty_of {xs : List V} {its : List Value} (r : Vals xs its) : (!its.toArray.isEmpty) = !xs.isEmpty := by
  cases r <;> simp
theorem line63 : (sizeLine : Nat) < 2 ^ 63 := by rw [sizeLine_eq]; decide
theorem tru_ok : TruR X (fun x H Q => ∃ k, TruV X.K x H k ∧ Q k H) := by
  intro pins s σ H x v Q I rx h
  obtain ⟨k, e, q⟩ := h
  have hl := line63
  have hs : sizeLine = 16777216 := sizeLine_eq
  cases x with
  | non =>
    cases rx
    have e' : k = false := e
    subst e'
    exact truthy_none ⟨H, I, q⟩
  | bl b =>
    cases rx
    have e' : k = b := e
    subst e'
    exact wpAny_truthy_bool ⟨H, I, q⟩
  | int i =>
    obtain ⟨t, rfl⟩ := rx
    have e' : k = (i != 0) := e
    subst e'
    exact PySem.P.truthy_int ⟨H, I, q⟩
  | str y =>
    obtain ⟨t, rfl⟩ := rx
    obtain ⟨hy, e'⟩ : y.length ≤ sizeLine ∧ k = ((y.length : Int) != 0) := e
    subst e'
    exact PySem.P.truthy_str (by omega) ⟨H, I.tok _, q⟩
  | byt y =>
    obtain ⟨t, rfl⟩ := rx
    obtain ⟨hy, e'⟩ : y.size ≤ sizeLine ∧ k = ((y.size : Int) != 0) := e
    subst e'
    exact PySem.W.truthy_bytes (by omega) ⟨H, I.tok _, q⟩
  | ref p =>
    cases rx
    have e' : (∃ xs, SqL X.K H p xs ∧ k = !xs.isEmpty) ∨ (∃ xs, SqT X.K H p xs ∧ k = !xs.isEmpty) ∨ ∃ kvs, H p = some (.dK kvs) ∧ k = !kvs.isEmpty := e
    rcases e' with ⟨xs, hx, e'⟩ | ⟨xs, hx, e'⟩ | ⟨kvs, hx, e'⟩
    · subst e'
      obtain ⟨its, r, pl, hz⟩ := I.list hx
      have hlen := r.length
      exact wpAny_truthy_list pl.isList (by simp only [List.size_toArray]; omega) ⟨H, I.tok _, by rw [isEmpty_of r]; exact q⟩
    · subst e'
      obtain ⟨its, r, pl, hz⟩ := I.tuple hx
      have hlen := r.length
      exact truthy_tuple pl (by simp only [List.size_toArray]; omega) ⟨H, I.tok _, by rw [isEmpty_of r]; exact q⟩
    · subst e'
      obtain ⟨hz, hS, vs, r, m⟩ : kvs.length ≤ sizeLine ∧ (p == sysModules) = false ∧ ∃ vs, KV kvs vs ∧ s.heap.DictOf (mixKind X.prog X.w) p vs := I.hok p _ hx
      have hlen : kvs.length = vs.length := Paired.length r
      exact wpAny_truthy_dict hS m (by omega) ⟨H, I.tok _, by rw [isEmpty_kv r]; exact q⟩
  | _ => exact (show False from e).elim
theorem pt_truth (ha : PE X a ta) (he : ∀ whole, isTrue a X.env whole = (do let v ← whole; standAt a.pos; holding [v] (truthy v))) :
    PT X a (fun σ H Q => ta σ H fun x H' => ∃ k, TruV X.K x H' k ∧ Q k H') := by
  intro pins s σ H Q I h
  exact isTrue_plain (thn (ha pins s σ H _ I h) fun v s1 ⟨x, H1, I1, r1, q1⟩ => tru_ok pins s1 σ H1 x v Q I1 r1 q1) (he _)
theorem op_add_str : OpR X (binaryOp .Add) (fun x y H Q => ∃ i j, x = .str i ∧ y = .str j ∧ i.length + j.length ≤ sizeLine ∧ Q (.str (i ++ j)) H) := by
  intro pins s σ H x y v u Q I rx ry h
  obtain ⟨i, j, rfl, rfl, hz, q⟩ := h
  obtain ⟨t, rfl⟩ := rx
  obtain ⟨t', rfl⟩ := ry
  exact add_str (fun t' tk => ⟨.str (i ++ j), H, I.tok _, ⟨_, rfl⟩, q⟩) hz
theorem vals1 {x : V} {us : List Value} (r : Vals [x] us) : ∃ u, us = [u] ∧ RelV x u := by
  cases r with
  | cons r1 r2 => cases r2; exact ⟨_, rfl, r1⟩
theorem vals2 {x y : V} {us : List Value} (r : Vals [x, y] us) : ∃ u w', us = [u, w'] ∧ RelV x u ∧ RelV y w' := by
  cases r with
  | cons r1 r2 =>
    cases r2 with
    | cons r3 r4 => cases r4; exact ⟨_, _, rfl, r1, r3⟩
theorem call_max2 (hc : X.calm = true) : CallR X (.builtin "max") (fun xs H Q => ∃ i j, xs = [.int i, .int j] ∧ Q (.int (if j > i then j else i)) H) := by
  intro pins s σ H xs us Q I r h
  obtain ⟨i, j, rfl, q⟩ := h
  obtain ⟨u, w', rfl, ⟨t, rfl⟩, ⟨t', rfl⟩⟩ := vals2 r
  refine max_two_ints (I.ok.hd hc) fun h' tk k => ⟨_, H, I.kept k, ?_, q⟩
  by_cases hj : j > i
  · rw [if_pos hj, if_pos hj]; exact ⟨_, rfl⟩
  · rw [if_neg hj, if_neg hj]; exact ⟨_, rfl⟩
theorem call_min2 (hc : X.calm = true) : CallR X (.builtin "min") (fun xs H Q => ∃ i j, xs = [.int i, .int j] ∧ Q (.int (if j < i then j else i)) H) := by
  intro pins s σ H xs us Q I r h
  obtain ⟨i, j, rfl, q⟩ := h
  obtain ⟨u, w', rfl, ⟨t, rfl⟩, ⟨t', rfl⟩⟩ := vals2 r
  refine min_two_ints (I.ok.hd hc) fun h' tk k => ⟨_, H, I.kept k, ?_, q⟩
  by_cases hj : j < i
  · rw [if_pos hj, if_pos hj]; exact ⟨_, rfl⟩
  · rw [if_neg hj, if_neg hj]; exact ⟨_, rfl⟩
theorem call_int1 : CallR X (.type "int") (fun xs H Q => (∃ i, xs = [.int i] ∧ Q (.int i) H) ∨ ∃ k, xs = [.bl k] ∧ Q (.int (if k then 1 else 0)) H) := by
  intro pins s σ H xs us Q I r h
  rcases h with ⟨i, rfl, q⟩ | ⟨k, rfl, q⟩
  · obtain ⟨u, rfl, t, rfl⟩ := vals1 r
    exact call_int_int ⟨.int i, H, I, ⟨_, rfl⟩, q⟩
  · obtain ⟨u, rfl, r1⟩ := vals1 r
    cases r1
    exact call_int_bool ⟨.int (if k then 1 else 0), H, I.tok _, ⟨_, rfl⟩, q⟩
theorem call_str_int : CallR X (.type "str") (fun xs H Q => ∃ i, xs = [.int i] ∧ i.natAbs.log2 < 1920 ∧ Q (.str (toString i)) H) := by
  intro pins s σ H xs us Q I r h
  obtain ⟨i, rfl, hz, q⟩ := h
  obtain ⟨u, rfl, t, rfl⟩ := vals1 r
  exact PySem.P.str_of_int hz ⟨.str _, H, I.tok _, ⟨_, rfl⟩, q⟩
end
end L2
namespace L2
open PySem PySem.Spec PyProof.Rows
structure ObjM (h : Heap) (x dx C : Addr) (mA : Str → Option Value) : Prop where
  obj : h.get? x = some (PySem.W.instObj C dx)
  ns : h.Ns1 dx mA
  ne : dx ≠ x
theorem lookIn_ns {h : Heap} {dx : Addr} {mA : Str → Option Value} (n : h.Ns1 dx mA) : ∃ od, h.get? dx = some od ∧ ∀ name, PySem.W.lookIn name od = some (mA name) := by
  obtain ⟨o, es, ep, ho, hd, hk, _, hm⟩ := n
  refine ⟨o, ho, fun name => ?_⟩
  have e := hm name
  unfold nsFind findBy at e
  rw [← Array.find?_toList] at e
  unfold PySem.W.lookIn
  rw [hd]
  dsimp only
  split
  · rename_i y q
    rw [q] at e
    exact congrArg some e
  · rename_i q
    rw [q] at e
    have a : es.toList.any (·.refKey) = false := by
      rw [List.any_eq_false]
      intro y hy
      obtain ⟨z, t, hkey⟩ := hk y (Array.mem_toList_iff.mp hy)
      simp [DictEntry.refKey, hkey]
    have a' : ¬ es.toList.any (·.refKey) = true := by rw [a]; exact Bool.false_ne_true
    rw [if_neg a']
    exact congrArg some e
theorem ObjM.look {h : Heap} {x dx C : Addr} {mA : Str → Option Value} (I : ObjM h x dx C mA) : ∃ od, PySem.W.InstAt h x (PySem.W.instObj C dx) C (some od) ∧ ∀ name, PySem.W.lookIn name od = some (mA name) :=
  let ⟨od, ho, hl⟩ := lookIn_ns I.ns
  ⟨od, ⟨I.obj, rfl, rfl, ho⟩, hl⟩
section
variable {prog : Program} {w : World} {A : Around} {E : Value → Shared → Prop} {s : Shared} {K : PySem.W.Frag} {x dx C f : Addr} {mA : Str → Option Value} {name : Str} {v : Value}
theorem get_map {expr : Bool} {Q : Value → Shared → Prop} (X : K.In s.heap) (I : ObjM s.heap x dx C mA) (hg : PySem.W.plainGet K C name = true) (hh : PySem.W.hasDictIn K C = true)
    (ha : PySem.W.findIn K (.ref C) name = some none) (hv : mA name = some v) (hv' : PySem.W.handedIn v = true) (h : Q v { s with toks := s.toks + 1 }) :
    wpAny (model prog w) A (getAttr (.ref x) name expr) Q E s := by
  obtain ⟨od, J, hl⟩ := I.look
  exact PySem.W.get_value X J (PySem.W.plainGet_of hg).1 (PySem.W.findObj_own hh ha rfl (by rw [hl, hv])) hv' h
theorem get_meth {pl : Sem Bool} {Q : Value × List Value → Shared → Prop} (X : K.In s.heap) (I : ObjM s.heap x dx C mA) (hg : PySem.W.plainGet K C name = true)
    (hf : PySem.W.findIn K (.ref C) name = some (some (.ref f))) (ht : PySem.W.isFn K (.ref f) = true) (hv : mA name = none) (h : Q (.ref f, [.ref x]) s) :
    wpAny (model prog w) A (getMethod (.ref x) name pl) Q E s := by
  obtain ⟨od, J, hl⟩ := I.look
  exact PySem.W.method_fn X J (PySem.W.plainGet_of hg).1 (PySem.W.plainGet_of hg).2 hf (beq_iff_eq.mp ht) (by show (PySem.W.lookIn name od).map (·.isSome) = some false; rw [hl, hv]; rfl) h
theorem set_map {ns : List Str} {Q : Unit → Shared → Prop} (X : K.In s.heap) (I : ObjM s.heap x dx C mA)
    (hs : PySem.W.findIn K (.ref C) "__setattr__" = some (some (.builtin "object.__setattr__"))) (hp : PySem.W.plainOver K C = true) (ht : PySem.W.takerIn K C name = some none) (hh : PySem.W.hasDictIn K C = true)
    (hw : PySem.Within mA ns) (hsz : ns.length ≤ sizeLine)
    (h : ∀ h', ObjM h' x dx C (fun y => if y = name then some v else mA y) → Heap.SameBut dx s.heap h' → Q () { s with heap := h', toks := s.toks + 2 }) :
    wpAny (model prog w) A (setAttr (.ref x) name v) Q E s := by
  obtain ⟨od, J, hl⟩ := I.look
  refine PySem.W.set_plain X J hs (PySem.W.osa_open (s := { s with toks := s.toks + 1 }) (r := none) X J hp ht fun b => ?_)
  obtain ⟨cd, hc, hd'⟩ := PySem.W.any_some hh
  have hx : s.heap.get? x = some ⟨.ref C, some dx, .plain, #[]⟩ := I.obj
  refine wpAny_bind (wpAny_pure (wpAny_bind (wpAny_bind (wpAny_loadPart hx (wpAny_bind (PySem.W.Looks.here (s := { s with toks := s.toks + 1 }) (PySem.W.looks_clsIn X hc) ?_))))))
  rw [hd']
  refine wpAny_pure (a := some dx) (wpAny_bind (wpAny_pure (wpAny_bind ?_)))
  refine wpAny_nsSet1 (s := { s with toks := s.toks + 1 }) I.ns fun h' hn2 hs2 => ?_
  obtain ⟨oD, esD, epD, hoD, hdD, hcD⟩ := hn2.count (PySem.Within.cons name v hw)
  refine wpAny_bind (wpAny_lookBehind hoD (by rw [hdD]; exact pastItsLine_dict (Nat.le_trans hcD (by rw [List.length_cons]; omega))) ?_)
  exact wpAny_pure (h _ ⟨(hs2.2 _ (Ne.symm I.ne)).trans I.obj, hn2, I.ne⟩ hs2)
theorem make_map {R : Result → Shared → Prop} {vs : List Value} {kw : List (Str × Value)} (X : K.In s.heap) (hm : PySem.W.makesIn K C = true)
    (hi : PySem.W.findIn K (.ref C) "__init__" = some (some (.ref f))) (hf : PySem.W.typeIn K (.ref f) = some (.type "function"))
    (h : codeAny (model prog w) (A.under (.builtin "type.__call__" ⟨.ref C :: vs, kw⟩)) (.call (.ref f) ⟨.ref (s.heap.objs.size + 1) :: vs, kw⟩) (PySem.W.InitBack (s.heap.objs.size + 1) R)
      { s with heap := (s.heap.push PySem.W.emptyDict).push (PySem.W.instObj C s.heap.objs.size) }) :
    codeAny (model prog w) A (.call (.ref C) ⟨vs, kw⟩) R s := by
  obtain ⟨hh, g, d, t, os⟩ := s
  exact PySem.W.make_core (PySem.W.makes_of X hm) (PySem.W.looks_findIn X hi) (fun self => PySem.W.bind_fn X self hf) (.inl rfl) h
end
def putF (f : Str) (v : V) : List (Str × V) → List (Str × V)
  | [] => [(f, v)]
  | (g, x) :: r => if g = f then (g, v) :: r else (g, x) :: putF f v r
theorem lookup_putF (f g : Str) (v : V) : ∀ fs : List (Str × V), (putF f v fs).lookup g = if g = f then some v else fs.lookup g
  | [] => by
    show List.lookup g [(f, v)] = _
    by_cases h : g = f
    · have hb : (g == f) = true := beq_iff_eq.mpr h
      simp only [List.lookup, hb, if_pos h]
    · have hb : (g == f) = false := beq_eq_false_iff_ne.mpr h
      simp only [List.lookup, hb, if_neg h]
  | (k, x) :: r => by
    have ih := lookup_putF f g v r
    rw [show putF f v ((k, x) :: r) = (if k = f then (k, v) :: r else (k, x) :: putF f v r) from rfl]
    by_cases hk : k = f
    · rw [if_pos hk]
      by_cases h : g = k
      · have hb : (g == k) = true := beq_iff_eq.mpr h
        simp only [List.lookup, hb, if_pos (h.trans hk)]
      · have hb : (g == k) = false := beq_eq_false_iff_ne.mpr h
        simp only [List.lookup, hb, if_neg (fun e : g = f => h (e.trans hk.symm))]
    · rw [if_neg hk]
      by_cases h : g = k
      · have hb : (g == k) = true := beq_iff_eq.mpr h
        simp only [List.lookup, hb, if_neg (fun e : g = f => hk (h.symm.trans e))]
      · have hb : (g == k) = false := beq_eq_false_iff_ne.mpr h
        simp only [List.lookup, hb]
        exact ih
theorem keys_putF (f : Str) (v : V) : ∀ fs : List (Str × V), f ∈ (putF f v fs).map (·.1) ∧ ∀ g, g ∈ fs.map (·.1) → g ∈ (putF f v fs).map (·.1)
  | [] => ⟨by simp [putF], fun g h => by simp at h⟩
  | (k, x) :: r => by
    obtain ⟨i1, i2⟩ := keys_putF f v r
    rw [show putF f v ((k, x) :: r) = (if k = f then (k, v) :: r else (k, x) :: putF f v r) from rfl]
    by_cases hk : k = f
    · rw [if_pos hk]
      subst hk
      exact ⟨by simp, fun g h => by simpa using h⟩
    · rw [if_neg hk]
      refine ⟨?_, fun g h => ?_⟩
      · rw [List.map_cons]
        exact List.mem_cons_of_mem _ i1
      · rw [List.map_cons] at h ⊢
        rcases List.mem_cons.mp h with e | e
        · exact List.mem_cons.mpr (.inl e)
        · exact List.mem_cons_of_mem _ (i2 g e)
theorem length_putF (f : Str) (v : V) : ∀ fs : List (Str × V), (putF f v fs).length ≤ fs.length + 1
  | [] => by simp [putF]
  | (k, x) :: r => by
    have ih := length_putF f v r
    rw [show putF f v ((k, x) :: r) = (if k = f then (k, v) :: r else (k, x) :: putF f v r) from rfl]
    by_cases hk : k = f
    · rw [if_pos hk, List.length_cons, List.length_cons]; omega
    · rw [if_neg hk, List.length_cons, List.length_cons]; omega
theorem RelO.some_of {v : V} {o : Option Value} (r : RelO (some v) o) : ∃ u, o = some u ∧ RelV v u := by
  cases o with
  | none => exact (show False from r).elim
  | some u => exact ⟨u, rfl, r⟩
theorem RelO.none_of {o : Option Value} (r : RelO none o) : o = none := by
  cases o with
  | none => rfl
  | some u => exact (show False from r).elim
theorem handed_of {v : V} {u : Value} (r : RelV v u) : PySem.W.handedIn u = true := by
  cases v with
  | non => cases (show u = Value.none from r); rfl
  | bl b => cases (show u = Value.bool b from r); rfl
  | int i => obtain ⟨t, e⟩ := (show ∃ t, u = Value.int i t from r); cases e; rfl
  | str x => obtain ⟨t, e⟩ := (show ∃ t, u = Value.str x t from r); cases e; rfl
  | byt b => obtain ⟨t, e⟩ := (show ∃ t, u = Value.bytes b t from r); cases e; rfl
  | flt b => obtain ⟨t, e⟩ := (show ∃ t, u = Value.float b t from r); cases e; rfl
  | ref a => cases (show u = Value.ref a from r); rfl
  | ty n => cases (show u = Value.type n from r); rfl
section
variable {P : Program} {w : World} {H H' : Hp} {h h' : Heap} {a C dx : Addr} {fs fs' : List (Str × V)}
theorem ins_get (hok : HOk P w H h) (e : H a = some (.ins C dx fs)) : ∃ mA, ObjM h a dx C mA ∧ (∀ f, RelO (fs.lookup f) (mA f)) ∧ PySem.Within mA (fs.map (·.1)) ∧ fs.length ≤ 1000 ∧ H dx = some (.own a) := by
  obtain ⟨d, z, ne, ob, mA, n, r, q⟩ := (show ObjOk P w H h a (.ins C dx fs) from hok a _ e)
  exact ⟨mA, ⟨ob, n, ne⟩, r, q, z, d⟩
end
structure Cls (K : PySem.W.Frag) (C : Addr) : Prop where
  pg : PySem.W.plainGet K C Str.empty = true
  hd : PySem.W.hasDictIn K C = true
  po : PySem.W.plainOver K C = true
  sa : PySem.W.findIn K (.ref C) "__setattr__" = some (some (.builtin "object.__setattr__"))
theorem Cls.get {K : PySem.W.Frag} {C : Addr} (c : Cls K C) (f : Str) : PySem.W.plainGet K C f = true := c.pg
def NoAttr (K : PySem.W.Frag) (C : Addr) (f : Str) : Prop := PySem.W.findIn K (.ref C) f = some none
theorem NoAttr.taker {K : PySem.W.Frag} {C : Addr} {f : Str} (n : NoAttr K C f) : PySem.W.takerIn K C f = some none := by
  unfold PySem.W.takerIn
  rw [show PySem.W.findIn K (.ref C) f = some none from n]
  rfl
structure Meth (K : PySem.W.Frag) (C : Addr) (m : Str) (f : Addr) : Prop where
  at_ : PySem.W.findIn K (.ref C) m = some (some (.ref f))
  fn : PySem.W.isFn K (.ref f) = true
  kp : PySem.W.keepIn K (.ref f) = true
section
variable {X : Cx} {pins : List (Addr × Obj)} {σ : St} {H : Hp} {s : Shared} {a C dx : Addr} {fs : List (Str × V)} {f : Str} {v : V} {A : Around} {E : Value → Shared → Prop}
theorem getattr_ok {b : Bool} {Q : Value → Shared → Prop} (I : Inv X pins σ H s) (e : H a = some (.ins C dx fs)) (c : Cls X.K C) (n : NoAttr X.K C f) (l : fs.lookup f = some v)
    (h : ∀ u s', Inv X pins σ H s' → RelV v u → Q u s') : wpAny (model X.prog X.w) A (getAttr (.ref a) f b) Q E s := by
  obtain ⟨mA, O, r, _, _, _⟩ := ins_get I.hok e
  obtain ⟨u, hu, ru⟩ := RelO.some_of (v := v) (o := mA f) (by rw [← l]; exact r f)
  exact get_map I.kIn O (c.get f) c.hd n hu (handed_of ru) (h u _ (I.tok _) ru)
theorem getmeth_ok {m : Str} {g : Addr} {pl : Sem Bool} {Q : Value × List Value → Shared → Prop} (I : Inv X pins σ H s) (e : H a = some (.ins C dx fs)) (c : Cls X.K C) (k : Meth X.K C m g) (l : fs.lookup m = none)
    (h : Q (.ref g, [.ref a]) s) : wpAny (model X.prog X.w) A (getMethod (.ref a) m pl) Q E s := by
  obtain ⟨mA, O, r, _, _, _⟩ := ins_get I.hok e
  have hn : mA m = none := RelO.none_of (by rw [← l]; exact r m)
  exact get_meth I.kIn O (c.get m) k.at_ k.fn hn h
theorem setattr_ok {y : V} {u : Value} {Q : Unit → Shared → Prop} (I : Inv X pins σ H s) (e : H a = some (.ins C dx fs)) (c : Cls X.K C) (n : NoAttr X.K C f) (hl : fs.length < 1000) (ry : RelV y u)
    (h : ∀ s', Inv X pins σ (upd H a (.ins C dx (putF f y fs))) s' → Q () s') : wpAny (model X.prog X.w) A (setAttr (.ref a) f u) Q E s := by
  obtain ⟨mA, O, r, wi, _, ho⟩ := ins_get I.hok e
  have hz : (fs.map (·.1)).length ≤ sizeLine := by rw [List.length_map, sizeLine_eq]; omega
  refine set_map I.kIn O c.sa c.po n.taker c.hd wi hz fun h' O' sb => h _ ?_
  have hd : ∃ o, h'.get? dx = some o := let ⟨o, _, _, e', _⟩ := O'.ns; ⟨o, e'⟩
  refine I.write (x := a) (e := dx) (by rw [e]; exact True.intro) (.inr ho) (fun b q hb z => (sb.2 b hb).trans z) hd ?_
  refine ⟨by rw [upd_ne O.ne]; exact ho, ?_, O.ne, O'.obj, _, O'.ns, fun g => ?_, fun g hg => ?_⟩
  · have := length_putF f y fs; omega
  · show RelO ((putF f y fs).lookup g) (if g = f then some u else mA g)
    rw [lookup_putF]
    by_cases q : g = f
    · rw [if_pos q, if_pos q]; exact ry
    · rw [if_neg q, if_neg q]; exact r g
  · by_cases q : g = f
    · rw [q]; exact (keys_putF f y fs).1
    · refine (keys_putF f y fs).2 g (wi g fun z => hg ?_)
      show (if g = f then some u else mA g) = none
      rw [if_neg q]; exact z
theorem Inv.made (I : Inv X pins σ H s) : Inv X pins σ (upd (upd H s.heap.objs.size (.own (s.heap.objs.size + 1))) (s.heap.objs.size + 1) (.ins C s.heap.objs.size []))
    { s with heap := (s.heap.push PySem.W.emptyDict).push (PySem.W.instObj C s.heap.objs.size) } := by
  have e1 : (s.heap.push PySem.W.emptyDict).get? s.heap.objs.size = some PySem.W.emptyDict := Heap.get?_push_size s.heap rfl
  have e2 : ((s.heap.push PySem.W.emptyDict).push (PySem.W.instObj C s.heap.objs.size)).get? (s.heap.objs.size + 1) = some (PySem.W.instObj C s.heap.objs.size) := by
    have := Heap.get?_push_size (s.heap.push PySem.W.emptyDict) (o := PySem.W.instObj C s.heap.objs.size) rfl
    rwa [Heap.size_push] at this
  have e3 : (s.heap.push PySem.W.emptyDict).Ns s.heap.objs.size (fun _ => none) := ⟨PySem.W.emptyDict, #[], _, e1, rfl, (fun e he => absurd he (by simp)), fun _ => rfl⟩
  have I1 := I.laid (a := s.heap.objs.size) (o := .own (s.heap.objs.size + 1)) (h' := s.heap.push PySem.W.emptyDict) (t' := s.toks) (fun b u q => Heap.get?_push_of_some _ q) (Nat.le_refl _) ⟨_, e1⟩
  refine I1.laid (a := s.heap.objs.size + 1) (o := .ins C s.heap.objs.size []) (t' := s.toks) (fun b u q => Heap.get?_push_of_some _ q) (Nat.le_of_eq (Heap.size_push _ _)) ?_
  have ne : s.heap.objs.size ≠ s.heap.objs.size + 1 := Nat.ne_of_lt (Nat.lt_succ_self _)
  refine ⟨by rw [upd_ne ne, upd_same], Nat.zero_le _, ne, e2, fun _ => none, (Heap.Ns1.of_empty e3).at fun o q => Heap.get?_push_of_some _ q, fun _ => True.intro, fun y hy => absurd rfl hy⟩
theorem attr_of {prog : Program} {w : World} {env : Env} {e : Expr} {f : Str} {pos : Pos} {s : Shared} {Q : Value → Shared → Prop} (hb : attributeBase e f env (eval e env) = eval e env)
    (h : wpAny (model prog w) A (eval e env) (fun o s₁ => wpAny (model prog w) A (getAttr o f true) Q E s₁) E s) : wpAny (model prog w) A (eval (.Attribute e f pos) env) Q E s :=
  Attribute_any_ h (by rw [arm_eval_Attribute, hb])
end
def tFld (K : PySem.W.Frag) (ta : TE) (f : Str) : TE := fun σ H Q => ta σ H fun x H1 => ∃ a C dx fs v, x = .ref a ∧ H1 a = some (.ins C dx fs) ∧ Cls K C ∧ NoAttr K C f ∧ fs.lookup f = some v ∧ Q v H1
def sFld (K : PySem.W.Frag) (ta tv : TE) (f : Str) : TS := fun D σ H => tv σ H fun y H1 => ta σ H1 fun x H2 => ∃ a C dx fs, x = .ref a ∧ H2 a = some (.ins C dx fs) ∧ Cls K C ∧ NoAttr K C f ∧ fs.length < 1000 ∧
  D.nx σ (upd H2 a (.ins C dx (putF f y fs)))
def InOp (X : Cx) (op : Operator) (rd : V → V → Hp → VK → Prop) : Prop :=
  ∀ (pins : List (Addr × Obj)) (s : Shared) (σ : St) (H : Hp) (x y : V) (u v : Value) (Q : VK), Inv X pins σ H s → RelV x u → RelV y v → rd x y H Q → wpAny (model X.prog X.w) X.A (inplaceOp op u v) (EP X pins σ Q) X.xe s
def sFldAug (K : PySem.W.Frag) (ta tv : TE) (rd : V → V → Hp → VK → Prop) (f : Str) : TS := fun D σ H => ta σ H fun x H1 => ∃ a C dx fs v, x = .ref a ∧ H1 a = some (.ins C dx fs) ∧ Cls K C ∧ NoAttr K C f ∧ fs.lookup f = some v ∧
  tv σ H1 fun y H2 => rd v y H2 fun z H3 => ∃ dx' fs', H3 a = some (.ins C dx' fs') ∧ fs'.length < 1000 ∧ D.nx σ (upd H3 a (.ins C dx' (putF f z fs')))
section
variable {X : Cx} {o e value : Expr} {f : Str} {pos pos' tpos : Pos} {ta tv : TE}
theorem pe_fld (he : PE X e ta) (hb : attributeBase e f X.env (eval e X.env) = eval e X.env) : PE X (.Attribute e f pos) (tFld X.K ta f) := by
  intro pins s σ H Q I h
  refine attr_of hb (thn (he pins s σ H _ I h) fun u s1 ⟨x, H1, I1, rx, a, C, dx, fs, v, ex, ea, c, n, l, q⟩ => ?_)
  subst ex
  obtain rfl : u = Value.ref a := rx
  exact getattr_ok I1 ea c n l fun u' s2 I2 ru => ⟨v, H1, I2, ru, q⟩
theorem ps_fld (ha : PE X o ta) (hv : PE X value tv) (hs : swapsWith value (some (.Attribute o f pos')) pos.line X.env = pure false) : PS X (.Assign [.Attribute o f pos'] value pos) (sFld X.K ta tv f) := by
  intro pins s σ H D I h
  refine plainObj_wpAny_Assign_Attribute (thn (hv pins s σ H _ I h) fun u s1 ⟨y, H1, I1, ry, q⟩ => thn (ha pins s1 σ H1 _ I1 q) fun ov s2 ⟨x, H2, I2, rx, a, C, dx, fs, ex, ea, c, n, l, q2⟩ => ?_) hs
  subst ex
  obtain rfl : ov = Value.ref a := rx
  exact setattr_ok I2 ea c n l ry fun s3 I3 => ⟨σ, _, I3, q2⟩
theorem ps_fldaug {op : Operator} {rd : V → V → Hp → VK → Prop} (ha : PE X o ta) (hv : PE X value tv) (hop : InOp X op rd) : PS X (.AugAssign (.Attribute o f tpos) op value pos) (sFldAug X.K ta tv rd f) := by
  intro pins s σ H D I h
  refine wpAny_AugAssign_AttributeAny (thn (ha pins s σ H _ I h) fun ov s1 ⟨x, H1, I1, rx, a, C, dx, fs, v, ex, ea, c, n, l, q⟩ => ?_)
  subst ex
  obtain rfl : ov = Value.ref a := rx
  refine getattr_ok I1 ea c n l fun u s2 I2 ru => thn (hv pins s2 σ H1 _ I2 q) fun w3 s3 ⟨y, H2, I3, ry, q3⟩ => thn (hop pins s3 σ H2 v y u w3 _ I3 ru ry q3) fun w4 s4 ⟨z, H3, I4, rz, dx', fs', ea', l', q4⟩ => ?_
  exact setattr_ok I4 ea' c n l' rz fun s5 I5 => ⟨σ, _, I5, q4⟩
def rAdd : V → V → Hp → VK → Prop := fun x y H Q => ∃ i j, x = .int i ∧ y = .int j ∧ Q (.int (i + j)) H
theorem in_add : InOp X .Add rAdd := by
  rintro pins s σ H x y u v Q I rx ry ⟨i, j, rfl, rfl, q⟩
  obtain ⟨t, rfl⟩ := (show ∃ t, u = Value.int i t from rx)
  obtain ⟨t', rfl⟩ := (show ∃ t', v = Value.int j t' from ry)
  exact PyProof.Rows.iadd_int ⟨.int (i + j), H, I.tok _, ⟨_, rfl⟩, q⟩
end
section
variable {X : Cx} {pins : List (Addr × Obj)} {σ : St} {H : Hp} {s : Shared} {A : Around} {E : Value → Shared → Prop} {Q : Value → Shared → Prop} {c : Value} {b : Bool}
inductive TyOf (K : PySem.W.Frag) (H : Hp) : V → Value → Prop where
  | non : TyOf K H .non (.type "NoneType")
  | bl (x : Bool) : TyOf K H (.bl x) (.type "bool")
  | int (i : Int) : TyOf K H (.int i) (.type "int")
  | str (x : Str) : TyOf K H (.str x) (.type "str")
  | flt (x : UInt64) : TyOf K H (.flt x) (.type "float")
  | lst {a : Addr} {xs : List V} (e : H a = some (.lst xs)) : TyOf K H (.ref a) (.type "list")
  | frz {a : Addr} {o : Obj} {xs : List V} (e : H a = some (.frz o (.lst xs))) : TyOf K H (.ref a) (.type "list")
  | tup {a : Addr} {xs : List V} (e : H a = some (.tup xs)) : TyOf K H (.ref a) (.type "tuple")
  | dK {a : Addr} {kvs : List (Key × V)} (e : H a = some (.dK kvs)) : TyOf K H (.ref a) (.type "dict")
  | dT {a : Addr} {kvs : List (List Key × V)} (e : H a = some (.dT kvs)) : TyOf K H (.ref a) (.type "dict")
  | ins {a C dx : Addr} {fs : List (Str × V)} (e : H a = some (.ins C dx fs)) (cl : Cls K C) (ha : PySem.W.findIn K (.ref C) "__class__" = some (some (.builtin "object.__class__")))
      (hn : PySem.W.specialIn K (.builtin "object.__class__") "__get__" = some (some (.builtin "getset_descriptor.__get__"))) (htk : PySem.W.takesIn K (.builtin "object.__class__") = some true)
      (hm : PySem.W.mroIn K C (.type "object") = some true) : TyOf K H (.ref a) (.ref C)
theorem isinst_ok {x : V} {u t : Value} (I : Inv X pins σ H s) (rx : RelV x u) (ty : TyOf X.K H x t) (e : PySem.W.kitOne X.K t c = some b) (h : ∀ tk, Q (.bool b) { s with toks := tk }) :
    wpAny (model X.prog X.w) A (call (.builtin "isinstance") [u, c]) Q E s := by
  cases ty with
  | non => cases (show u = Value.none from rx); exact PySem.W.kia_one PySem.W.kitx_none I.kIn True.intro e (fun z => nomatch z) h
  | bl y => cases (show u = Value.bool y from rx); exact PySem.W.kia_one PySem.W.kitx_bool I.kIn True.intro e (fun z => nomatch z) h
  | int i => obtain ⟨t, q⟩ := (show ∃ t, u = Value.int i t from rx); cases q; exact PySem.W.kia_one PySem.W.kitx_int I.kIn True.intro e (fun z => nomatch z) h
  | str y => obtain ⟨t, q⟩ := (show ∃ t, u = Value.str y t from rx); cases q; exact PySem.W.kia_one PySem.W.kitx_str I.kIn True.intro e (fun z => nomatch z) h
  | flt y => obtain ⟨t, q⟩ := (show ∃ t, u = Value.float y t from rx); cases q; exact PySem.W.kia_one PySem.W.kitx_float I.kIn True.intro e (fun z => nomatch z) h
  | @lst a xs ea =>
    cases (show u = Value.ref a from rx)
    obtain ⟨_, _, n, _, h1⟩ := (show ObjOk X.prog X.w H s.heap a (.lst xs) from I.hok a _ ea)
    exact PySem.W.kia_one PySem.W.kitx_list I.kIn ⟨_, h1, rfl⟩ e (fun z => nomatch z) h
  | @frz a ob xs ea =>
    cases (show u = Value.ref a from rx)
    obtain ⟨_, _, _, n, _, h1⟩ := (show ObjOk X.prog X.w H s.heap a (.frz ob (.lst xs)) from I.hok a _ ea)
    exact PySem.W.kia_one PySem.W.kitx_list I.kIn ⟨_, h1, rfl⟩ e (fun z => nomatch z) h
  | @tup a xs ea =>
    cases (show u = Value.ref a from rx)
    obtain ⟨_, _, _, p⟩ := (show ObjOk X.prog X.w H s.heap a (.tup xs) from I.hok a _ ea)
    obtain ⟨o, h1, h2, _⟩ := p
    exact PySem.W.kia_one PySem.W.kitx_tuple I.kIn ⟨o, h1, (Prod.mk.inj h2).1⟩ e (fun z => nomatch z) h
  | @dK a kvs ea =>
    cases (show u = Value.ref a from rx)
    obtain ⟨_, _, vs, _, p⟩ := (show ObjOk X.prog X.w H s.heap a (.dK kvs) from I.hok a _ ea)
    obtain ⟨o, es, ep, h1, h2, _⟩ := p
    exact PySem.W.kia_one PySem.W.kitx_dict I.kIn ⟨o, h1, h2.1⟩ e (fun z => nomatch z) h
  | @dT a kvs ea =>
    cases (show u = Value.ref a from rx)
    obtain ⟨_, _, xs, _, o, es, ep, h1, h2, _⟩ := (show ObjOk X.prog X.w H s.heap a (.dT kvs) from I.hok a _ ea)
    exact PySem.W.kia_one PySem.W.kitx_dict I.kIn ⟨o, h1, h2.1⟩ e (fun z => nomatch z) h
  | @ins a C dx fs ea cl ha hn htk hm =>
    cases (show u = Value.ref a from rx)
    obtain ⟨mA, O, _⟩ := ins_get I.hok ea
    obtain ⟨od, J, _⟩ := O.look
    exact PySem.W.kia_one (PySem.W.kitx_own (cl.get _) cl.hd ha hn htk hm) I.kIn J e (fun z => nomatch z) h
end
end L2
namespace L2
open PySem PySem.Spec PyProof.Rows
structure Room (k : Nat) (A : Around) : Prop where
  hd : A.handled = none
  dp : A.depth + 3 * k + 5 < recursionLimit
  un : A.units + 16 * k + 200 < cLine
theorem Room.mono {j k : Nat} {A : Around} (r : Room k A) (h : j ≤ k) : Room j A := ⟨r.hd, by have := r.dp; omega, by have := r.un; omega⟩
theorem Room.deeper {k : Nat} {A : Around} (r : Room (k + 1) A) (env : Env) : Room k (A.deeper env) :=
  ⟨r.hd, by have := r.dp; show A.depth + 1 + 3 * k + 5 < _; omega, by have := r.un; show A.units + 3 + 16 * k + 200 < _; omega⟩
theorem Room.in1 {k : Nat} {A : Around} (r : Room (k + 1) A) : Room k A.in1 :=
  ⟨r.hd, by have := r.dp; show A.depth + 3 * k + 5 < _; omega, by have := r.un; show A.units + 1 + 16 * k + 200 < _; omega⟩
theorem make_depth {A : Around} {C : Addr} {us : List Value} {kw : List (Str × Value)} : (A.under (.builtin "type.__call__" ⟨.ref C :: us, kw⟩)).depth = A.depth + 1 := by
  first | rfl | simp [Around.under, Code.weight, Code.isCreation, Code.isGuard, Code.isCaller, Code.frames, Code.isFrame, guardIds]
theorem make_units {A : Around} {C : Addr} {us : List Value} {kw : List (Str × Value)} : (A.under (.builtin "type.__call__" ⟨.ref C :: us, kw⟩)).units = A.units + 1 := by
  first | rfl | simp [Around.under, Code.cUnits, Code.frames, Code.isFrame]
theorem Room.make {k : Nat} {A : Around} (r : Room (k + 1) A) (C : Addr) (us : List Value) (kw : List (Str × Value)) : Room k (A.under (.builtin "type.__call__" ⟨.ref C :: us, kw⟩)) :=
  ⟨r.hd, by have := r.dp; rw [make_depth]; omega, by have := r.un; rw [make_units]; omega⟩
theorem Room.depth {k : Nat} {A : Around} (r : Room k A) : A.depth < recursionLimit := by have := r.dp; omega
theorem Room.units {k : Nat} {A : Around} (r : Room k A) : A.units + 64 < cLine := by have := r.un; omega
def tNil : TA := fun _ H Q => Q [] H
def tCons (ta : TE) (tr : TA) : TA := fun σ H Q => ta σ H fun x H1 => tr σ H1 fun xs H2 => Q (x :: xs) H2
section
variable {X : Cx} {e : Expr} {es : List Expr} {te : TE} {t : TA} {pos : Pos}
theorem pa_nil : PA X [] tNil := fun _ _ _ _ H Q I h => Calls.spliced_nil ⟨[], H, I, .nil, h⟩
theorem pa_cons (ha : PE X e te) (hr : PA X es t) (hs : starEach (e :: es) X.env = (false, eval e X.env) :: starEach es X.env := by rfl) : PA X (e :: es) (tCons te t) := by
  intro pos pins s σ H Q I h
  rw [hs]
  show wpAny _ _ (spliced ((false, eval e X.env) :: backTo pos (starEach es X.env))) _ _ s
  refine Calls.spliced_cons (thn (ha pins s σ H _ I h) fun u s1 ⟨x, H1, I1, r1, q1⟩ => ?_)
  exact thn (hr pos pins s1 σ H1 _ I1 q1) fun us s2 ⟨xs, H2, I2, r2, q2⟩ => ⟨x :: xs, H2, I2, .cons r1 r2, q2⟩
def tTup (t : TA) : TE := fun σ H Q => t σ H fun xs H1 => xs.length ≤ sizeLine ∧ ∀ p, H1 p = none → Q (.ref p) (upd H1 p (.tup xs))
def tLst (t : TA) : TE := fun σ H Q => t σ H fun xs H1 => xs.length ≤ sizeLine ∧ ∀ p, H1 p = none → Q (.ref p) (upd H1 p (.lst xs))
theorem pe_tup {x1} (h : PA X es t) : PE X (.Tuple es x1 pos) (tTup t) := by
  intro pins s σ H Q I hq
  refine wpAny_Tuple_spliced (thn (h pos pins s σ H _ I hq) fun us s1 ⟨xs, H1, I1, r, z, q⟩ => ⟨by rw [← r.length]; exact z, ?_⟩)
  have hf : H1 s1.heap.objs.size = none := I1.hok.fresh (Nat.le_refl _)
  refine ⟨.ref s1.heap.objs.size, upd H1 s1.heap.objs.size (.tup xs), I1.laid (t' := s1.toks) (fun b u e => Heap.get?_push_of_some _ e) (Nat.le_refl _) ?_, rfl, q _ hf⟩
  exact ⟨z, us, r, ⟨_, Heap.get?_push_size _ rfl, rfl, _, rfl⟩⟩
theorem pe_lst (h : PA X es t) : PE X (.List es pos) (tLst t) := by
  intro pins s σ H Q I hq
  refine wpAny_List_spliced (thn (h pos pins s σ H _ I hq) fun us s1 ⟨xs, H1, I1, r, z, q⟩ => ⟨by rw [← r.length]; exact z, ?_⟩)
  have hf : H1 s1.heap.objs.size = none := I1.hok.fresh (Nat.le_refl _)
  refine ⟨.ref s1.heap.objs.size, upd H1 s1.heap.objs.size (.lst xs), I1.laid (t' := s1.toks) (fun b u e => Heap.get?_push_of_some _ e) (Nat.le_refl _) ?_, rfl, q _ hf⟩
  exact ⟨z, us, 0, r, Heap.get?_push_size _ rfl⟩
end
abbrev Sp := List V → Hp → VK → XK → Prop
abbrev CXT := List Env → Hp → Shared → XK → Value → Shared → Prop
structure Env0 (P : Program) (w : World) (K : PySem.W.Frag) (mg : Str → Option Value) (base : Heap) (A : Around) (outer : List Env) (s : Shared) (H : Hp) : Prop where
  frames : A.frames = some outer
  mod : Mod K mg base
  bs : ∀ b o, base.get? b = some o → s.heap.get? b = some o ∧ H b = none
  bsz : base.objs.size ≤ s.heap.objs.size
  funs : s.heap.FunFrames base outer
  frf : ∀ b ∈ frs outer, H b = none
  hok : HOk P w H s.heap
  bare : AllBare s.gens
def CE (outer : List Env) (P : Program) (w : World) (H : Hp) (s : Shared) (Q : VK) (u : Value) (s' : Shared) : Prop :=
  ∃ v H', s'.os = s.os ∧ AllBare s'.gens ∧ Un (frs outer) [] H H' s.heap s'.heap ∧ HOk P w H' s'.heap ∧ RelV v u ∧ Q v H'
def CR (CX : CXT) (outer : List Env) (P : Program) (w : World) (H : Hp) (s : Shared) (Q : VK) (E : XK) (r : Result) (s' : Shared) : Prop :=
  match r with
  | .ok (.ret u) => CE outer P w H s Q u s'
  | .ok _ => False
  | .error e => CX outer H s E e s'
structure FnOk (P : Program) (w : World) (K : PySem.W.Frag) (mg : Str → Option Value) (base : Heap) (CX : CXT) (k : Nat) (f : Addr) (fd : FuncData) (ps : List Str) (sp : Sp) : Prop where
  len : ∀ vs H Q E, sp vs H Q E → vs.length = ps.length
  run : ∀ (A : Around) (outer : List Env) (s : Shared) (H : Hp) (args : Args) (us : List Value) (vs : List V) (Q : VK) (E : XK), Room k A → Env0 P w K mg base A outer s H → BindsTo s fd args (ps.zip us) → Vals vs us → sp vs H Q E →
    codeAny (model P w) A (.call (.ref f) args) (CR CX outer P w H s Q E) s
theorem FnOk.mono {P : Program} {w : World} {K : PySem.W.Frag} {mg : Str → Option Value} {base : Heap} {CX : CXT} {j k : Nat} {f : Addr} {fd : FuncData} {ps : List Str} {sp : Sp} (F : FnOk P w K mg base CX j f fd ps sp) (h : j ≤ k) :
    FnOk P w K mg base CX k f fd ps sp := ⟨F.len, fun A outer s H args us vs Q E hr => F.run A outer s H args us vs Q E (hr.mono h)⟩
theorem Env0.make {P : Program} {w : World} {K : PySem.W.Frag} {mg : Str → Option Value} {base : Heap} {A : Around} {outer : List Env} {s : Shared} {H : Hp} (e : Env0 P w K mg base A outer s H) (C : Addr) (us : List Value) (kw : List (Str × Value)) :
    Env0 P w K mg base (A.under (.builtin "type.__call__" ⟨.ref C :: us, kw⟩)) outer s H := ⟨by first | exact e.frames | (simpa [Around.under, Code.envs, Code.isFrame, pushEnvs] using e.frames), e.mod, e.bs, e.bsz, e.funs, e.frf, e.hok, e.bare⟩
theorem Env0.in1 {P : Program} {w : World} {K : PySem.W.Frag} {mg : Str → Option Value} {base : Heap} {A : Around} {outer : List Env} {s : Shared} {H : Hp} (e : Env0 P w K mg base A outer s H) :
    Env0 P w K mg base A.in1 outer s H := ⟨e.frames, e.mod, e.bs, e.bsz, e.funs, e.frf, e.hok, e.bare⟩
section
variable {X : Cx} {pins : List (Addr × Obj)} {σ : St} {H : Hp} {s s' : Shared}
theorem Inv.env0 (I : Inv X pins σ H s) : Env0 X.prog X.w X.K X.mg X.base X.A X.stack s H :=
  ⟨I.ok.frames, I.ok.mod, I.bs, Nat.le_trans I.ok.bsz I.sz, I.stack, I.stkFree, I.hok, I.bare⟩
theorem Inv.after {Q : VK} {u : Value} (I : Inv X pins σ H s) (h : CE X.stack X.prog X.w H s Q u s') : EP X pins σ Q u s' := by
  obtain ⟨v, H', os, bare, un, hok, r, q⟩ := h
  obtain ⟨hh, g, d, t, os'⟩ := s'
  obtain rfl : os' = s.os := os
  exact ⟨v, H', I.call (h' := hh) (g' := g) (d' := d) (t' := t) (ch := []) un hok bare (fun b z => absurd z (by simp)), r, q⟩
end
def tCall (sp : Sp) (dvs : List V) (E : XK) (t : TA) : TE := fun σ H Q => t σ H fun vs H1 => sp (vs ++ dvs) H1 Q E
def tMake (C : Addr) (sp : Sp) (dvs : List V) (E : XK) (t : TA) : TE := fun σ H Q => t σ H fun vs H1 => ∀ x dx, H1 x = none → H1 dx = none → dx ≠ x →
  sp (.ref x :: (vs ++ dvs)) (upd (upd H1 dx (.own x)) x (.ins C dx [])) (fun v H2 => v = .non ∧ Q (.ref x) H2) E
def Binds (K : PySem.W.Frag) (fd : FuncData) (ps : List Str) (ds : List Value) : Prop :=
  ∀ (s : Shared) (us : List Value), K.In s.heap → (us ++ ds).length = ps.length → BindsTo s fd ⟨us, []⟩ (ps.zip (us ++ ds))
theorem Binds.all {K : PySem.W.Frag} {fd : FuncData} {ps : List Str} (h : ∀ us : List Value, us.length = ps.length → bindArgs fd ⟨us, []⟩ = pure (ps.zip us)) : Binds K fd ps [] := fun s us _ hl => by
  rw [List.append_nil] at hl ⊢
  exact .of_eq (h us hl)
def Passes (CX : CXT) (X : Cx) (E : XK) : Prop := ∀ (pins : List (Addr × Obj)) (σ : St) (H : Hp) (s : Shared) (e : Value) (s' : Shared), Inv X pins σ H s → CX X.stack H s E e s' → X.xe e s'
section
variable {X : Cx} {CX : CXT} {k : Nat} {f C : Addr} {fd : FuncData} {ps : List Str} {sp : Sp} {dvs : List V} {ds : List Value} {E : XK} {x m : Str} {p pos apos : Pos} {e o : Expr} {es : List Expr} {ta : TE} {t : TA}
theorem run_fn {pins : List (Addr × Obj)} {σ : St} {H : Hp} {s : Shared} {Q : VK} {us : List Value} {vs : List V} (F : FnOk X.prog X.w X.K X.mg X.base CX k f fd ps sp) (hr : Room k X.A) (hb : Binds X.K fd ps ds) (hd : Vals dvs ds) (hx : Passes CX X E)
    (I : Inv X pins σ H s) (r : Vals vs us) (h : sp (vs ++ dvs) H Q E) : wpAny (model X.prog X.w) X.A (call (.ref f) us) (EP X pins σ Q) X.xe s := by
  have r2 : Vals (vs ++ dvs) (us ++ ds) := r.append hd
  have hl : (us ++ ds).length = ps.length := by rw [← r2.length]; exact F.len _ _ _ _ h
  refine wpAny_call (codeAny_mono (F.run X.A X.stack s H ⟨us, []⟩ (us ++ ds) (vs ++ dvs) Q E hr I.env0 (hb s us I.kIn hl) r2 h) fun r s' hq => ?_)
  cases r with
  | error e => exact hx pins σ H s e s' I hq
  | ok fl =>
    cases fl with
    | ret u => exact I.after hq
    | next => exact False.elim hq
    | brk => exact False.elim hq
    | cont => exact False.elim hq
theorem pe_call (F : FnOk X.prog X.w X.K X.mg X.base CX k f fd ps sp) (hr : Room k X.A) (hg : Gl X x) (hm : X.mg x = some (.ref f)) (hk : PySem.W.keepIn X.K (.ref f) = true) (hb : Binds X.K fd ps ds) (hd : Vals dvs ds) (hx : Passes CX X E)
    (ha : PA X (e :: es) t) (hdb : (x == ("__debug__" : Str)) = false := by decide) (he : starEach (e :: es) X.env = (false, eval e X.env) :: starEach es X.env := by rfl) (hpl : (backTo pos (starEach es X.env)).any (·.1) = false := by rfl) :
    PE X (.Call (.Name x p) (e :: es) [] pos) (tCall sp dvs E t) := by
  intro pins s σ H Q I h
  refine wpAny_Call_Name_kw (ld_glob I hg hm ?_ hdb)
  refine PySem.W.callWith_K (h₀ := X.base) I.ok.mod.kin hk (thn (ha pos pins s σ H _ I h) fun us s1 ⟨vs, H1, I1, r, q⟩ => ⟨I1.kIn, ?_⟩) he hpl
  exact run_fn F hr hb hd hx I1 r q
structure Mk (K : PySem.W.Frag) (C f : Addr) : Prop where
  makes : PySem.W.makesIn K C = true
  init : PySem.W.findIn K (.ref C) "__init__" = some (some (.ref f))
  fn : PySem.W.isFn K (.ref f) = true
  kp : PySem.W.keepIn K (.ref C) = true
theorem run_make {pins : List (Addr × Obj)} {σ : St} {H : Hp} {s : Shared} {Q : VK} {us : List Value} {vs : List V} (M : Mk X.K C f) (F : FnOk X.prog X.w X.K X.mg X.base CX k f fd ps sp) (hr : Room (k + 1) X.A) (hb : Binds X.K fd ps ds) (hd : Vals dvs ds)
    (hx : Passes CX X E) (I : Inv X pins σ H s) (r : Vals vs us)
    (h : ∀ x dx, H x = none → H dx = none → dx ≠ x → sp (.ref x :: (vs ++ dvs)) (upd (upd H dx (.own x)) x (.ins C dx [])) (fun v H2 => v = .non ∧ Q (.ref x) H2) E) :
    wpAny (model X.prog X.w) X.A (call (.ref C) us) (EP X pins σ Q) X.xe s := by
  have hq := h (s.heap.objs.size + 1) s.heap.objs.size (I.hok.fresh (Nat.le_succ _)) (I.hok.fresh (Nat.le_refl _)) (Nat.ne_of_lt (Nat.lt_succ_self _))
  have I2 := Inv.made (C := C) I
  have r2 : Vals (V.ref (s.heap.objs.size + 1) :: (vs ++ dvs)) (Value.ref (s.heap.objs.size + 1) :: (us ++ ds)) := .cons rfl (r.append hd)
  have hl : (Value.ref (s.heap.objs.size + 1) :: us ++ ds).length = ps.length := by
    have e := r2.length
    rw [F.len _ _ _ _ hq] at e
    exact e.symm
  refine wpAny_call (make_map (f := f) I.kIn M.makes M.init (beq_iff_eq.mp M.fn) (codeAny_mono (F.run _ X.stack _ _ ⟨Value.ref (s.heap.objs.size + 1) :: us, []⟩ (Value.ref (s.heap.objs.size + 1) :: (us ++ ds)) _ _ E (hr.make C us [])
    (I2.env0.make C us []) (hb _ (Value.ref (s.heap.objs.size + 1) :: us) I2.kIn hl) r2 hq) fun r s' hq' => ?_))
  cases r with
  | error e => exact hx pins σ _ _ e s' I2 hq'
  | ok fl =>
    cases fl with
    | ret u =>
      obtain ⟨v, H', I3, rv, ev, q3⟩ := I2.after hq'
      subst ev
      exact ⟨rv, ⟨V.ref (s.heap.objs.size + 1), H', I3, rfl, q3⟩⟩
    | next => exact False.elim hq'
    | brk => exact False.elim hq'
    | cont => exact False.elim hq'
theorem pe_make (M : Mk X.K C f) (F : FnOk X.prog X.w X.K X.mg X.base CX k f fd ps sp) (hr : Room (k + 1) X.A) (hg : Gl X x) (hm : X.mg x = some (.ref C)) (hb : Binds X.K fd ps ds) (hd : Vals dvs ds) (hx : Passes CX X E)
    (ha : PA X (e :: es) t) (hdb : (x == ("__debug__" : Str)) = false := by decide) (he : starEach (e :: es) X.env = (false, eval e X.env) :: starEach es X.env := by rfl) (hpl : (backTo pos (starEach es X.env)).any (·.1) = false := by rfl) :
    PE X (.Call (.Name x p) (e :: es) [] pos) (tMake C sp dvs E t) := by
  intro pins s σ H Q I h
  refine wpAny_Call_Name_kw (ld_glob I hg hm ?_ hdb)
  refine PySem.W.callWith_K (h₀ := X.base) I.ok.mod.kin M.kp (thn (ha pos pins s σ H _ I h) fun us s1 ⟨vs, H1, I1, r, q⟩ => ⟨I1.kIn, ?_⟩) he hpl
  exact run_make M F hr hb hd hx I1 r q
end
section
variable {X : Cx} {CX : CXT} {k : Nat} {f C : Addr} {fd : FuncData} {ps ks : List Str} {sp : Sp} {E : XK} {x m : Str} {p pos apos kpos : Pos} {e o : Expr} {es : List Expr} {kws : List Keyword} {te ta : TE} {t tk : TA} {nm : Option Str}
variable {g : List Value → List Value → List Value} {gV : List V → List V → List V}
end
structure FnScope (N P : List Str) (sc : Scope) : Prop where
  kind : sc.kind = .function
  co : sc.isCoroutine = false
  gen : sc.isGenerator = false
  nd : N.Nodup
  pre : N.take P.length = P
  par : ∀ x ∈ P, sc.names.lookup x = some .local ∨ sc.names.lookup x = some .cell
  nofree : ∀ y ∈ sc.names, y.2 ≠ .free
theorem bindL_out {kindOf : Str → Option NameKind} {x : Str} : ∀ {binds : List (Str × Value)} {m : Str → Option Value}, (∀ v, (x, v) ∉ binds) → bindL kindOf binds m x = m x
  | [], _, _ => rfl
  | (n, v) :: r, m, h => by
    unfold bindL
    rw [bindL_out fun w hw => h w (List.mem_cons_of_mem _ hw)]
    split
    · have : x ≠ n := by rintro rfl; exact h v List.mem_cons_self
      simp [this]
    · rfl
theorem bindC_out {kindOf : Str → Option NameKind} {x : Str} : ∀ {binds : List (Str × Value)} {m : Str → Option Value}, (∀ v, (x, v) ∉ binds) → bindC kindOf binds m x = m x
  | [], _, _ => rfl
  | (n, v) :: r, m, h => by
    unfold bindC
    rw [bindC_out fun w hw => h w (List.mem_cons_of_mem _ hw)]
    split
    · rfl
    · have : x ≠ n := by rintro rfl; exact h v List.mem_cons_self
      simp [this]
theorem bindL_get {kindOf : Str → Option NameKind} {x : Str} {v : Value} : ∀ {P : List Str} {vs : List Value} {i : Nat} {m : Str → Option Value}, P.Nodup → P[i]? = some x → vs[i]? = some v → kindOf x = some .local →
    bindL kindOf (P.zip vs) m x = some v
  | [], _, _, _, _, h, _, _ => by simp at h
  | _ :: _, [], _, _, _, _, h, _ => by simp at h
  | p :: P, w :: vs, 0, m, nd, h1, h2, hk => by
    simp at h1 h2; subst h1; subst h2
    show bindL kindOf ((p, w) :: P.zip vs) m p = _
    unfold bindL
    rw [bindL_out fun v hv => (List.nodup_cons.mp nd).1 (List.of_mem_zip hv).1, if_pos hk]
    simp
  | p :: P, w :: vs, i + 1, m, nd, h1, h2, hk => by
    show bindL kindOf ((p, w) :: P.zip vs) m x = _
    unfold bindL
    exact bindL_get (i := i) (List.nodup_cons.mp nd).2 (by simpa using h1) (by simpa using h2) hk
theorem bindC_get {kindOf : Str → Option NameKind} {x : Str} {v : Value} : ∀ {P : List Str} {vs : List Value} {i : Nat} {m : Str → Option Value}, P.Nodup → P[i]? = some x → vs[i]? = some v → kindOf x ≠ some .local →
    bindC kindOf (P.zip vs) m x = some v
  | [], _, _, _, _, h, _, _ => by simp at h
  | _ :: _, [], _, _, _, _, h, _ => by simp at h
  | p :: P, w :: vs, 0, m, nd, h1, h2, hk => by
    simp at h1 h2; subst h1; subst h2
    show bindC kindOf ((p, w) :: P.zip vs) m p = _
    unfold bindC
    rw [bindC_out fun v hv => (List.nodup_cons.mp nd).1 (List.of_mem_zip hv).1, if_neg hk]
    simp
  | p :: P, w :: vs, i + 1, m, nd, h1, h2, hk => by
    show bindC kindOf ((p, w) :: P.zip vs) m x = _
    unfold bindC
    exact bindC_get (i := i) (List.nodup_cons.mp nd).2 (by simpa using h1) (by simpa using h2) hk
def start (N : List Str) (vs : List V) : St := vs.map some ++ List.replicate (N.length - vs.length) none
def cxOf (CX : CXT) (P : Program) (w : World) (K : PySem.W.Frag) (mg : Str → Option Value) (base : Heap) (N : List Str) (qual : Str) (scope : Scope) (f : Addr) (cd : Value) (A : Around) (outer : List Env) (s : Shared) (H : Hp) (E : XK) : Cx where
  prog := P
  w := w
  K := K
  mg := mg
  base := base
  A := A.deeper (envOfC qual scope s.heap.objs.size f cd)
  N := N
  s₀ := s
  H₀ := H
  env := envOfC qual scope s.heap.objs.size f cd
  outer := outer
  stack := envOfC qual scope s.heap.objs.size f cd :: outer
  ex := []
  calm := true
  fn := fun _ => true
  pn := []
  xe := fun e s' => wpAny (model P w) (A.deeper (envOfC qual scope s.heap.objs.size f cd)) (leaving (envOfC qual scope s.heap.objs.size f cd) e) (fun _ s'' => CX outer H s E e s'') (fun e' s'' => CX outer H s E e' s'') s'
theorem cell_has {sc : Scope} {n : Nat} {x : Str} (h : sc.names.lookup x = some .cell) : ∃ c, (cellsFrom n sc.names []).lookup x = some c := by
  have q := PySem.W.cellsFrom_some sc.names n [] (.inl h)
  exact Option.isSome_iff_exists.mp q
theorem inv_start {CX : CXT} {P : Program} {w : World} {K : PySem.W.Frag} {mg : Str → Option Value} {base : Heap} {N ps : List Str} {qual : Str} {scope : Scope} {f : Addr} {cd : Value} {A : Around} {outer : List Env} {s s1 : Shared} {H : Hp} {E : XK} {us : List Value} {vs : List V}
    (S : FnScope N ps scope) (hd : A.handled = none) (e0 : Env0 P w K mg base A outer s H) (hl : vs.length = ps.length) (r : Vals vs us)
    (x : InCallC s s.heap.objs.size (bindL (envOfC qual scope s.heap.objs.size f cd).kindOf (ps.zip us) fun _ => none) (cellsFrom (s.heap.objs.size + 1) scope.names []) (bindC (envOfC qual scope s.heap.objs.size f cd).kindOf (ps.zip us) fun _ => none) s1) :
    Inv (cxOf CX P w K mg base N qual scope f cd A outer s H E) [] (start N vs) H s1 := by
  have hpl : ps.length ≤ N.length := by have := congrArg List.length S.pre; rw [List.length_take] at this; omega
  obtain ⟨h1, tk, rfl, hk⟩ := x.done
  have noA : ∀ b : Addr, b ∉ (cxOf CX P w K mg base N qual scope f cd A outer s H E).ex := fun b z => absurd (show b ∈ ([] : List Addr) from z) (by simp)
  refine ⟨⟨e0.mod, S.kind, rfl, rfl, Nat.le_refl _, fun y z c h1 h2 => ?_, fun y hy => ?_, fun y c _ h => ?_, fun _ => hd, Around.frames_deeper e0.frames, .inr ⟨rfl, rfl⟩, fun b z => absurd z (noA b), e0.bs, e0.bsz, fun b _ _ => noA b, fun b z => absurd z (noA b), e0.funs, e0.frf⟩,
    rfl, e0.bare, Un.kept hk, ⟨_, x.toInCall.ns, fun i y v h1 h2 h3 => ?_⟩, fun y c h => ⟨_, x.cell y c h⟩, e0.hok.fresh (Nat.le_refl _), fun y c h => ?_, fun p hp => absurd (show p ∈ ([] : List (Addr × Obj)) from hp) (by simp), e0.hok.kept hk, ?_⟩
  · exact name_of_addr x.apart (PySem.mem_of_lookup h1) (PySem.mem_of_lookup h2)
  · have hy : scope.names.lookup y = some .cell ∨ scope.names.lookup y = some .free := hy
    rcases hy with hy | hy
    · exact cell_has hy
    · exact absurd rfl (S.nofree _ (PySem.mem_of_lookup hy))
  · exact Nat.le_of_lt (x.above y c (PySem.mem_of_lookup h))
  · have hi : i < vs.length := by
      unfold start at h2
      by_cases hi : i < vs.length
      · exact hi
      · rw [List.getElem?_append_right (by simpa using hi)] at h2
        rw [List.getElem?_replicate] at h2
        split at h2 <;> cases h2
    have ha : vs[i]? = some v := by
      unfold start at h2
      rw [List.getElem?_append_left (by simpa using hi), List.getElem?_map] at h2
      cases e : vs[i]? with
      | none => rw [e] at h2; cases h2
      | some a => rw [e] at h2; cases h2; rfl
    obtain ⟨u, hu, rv⟩ := r.get ha
    have hp : ps[i]? = some y := by
      rw [← S.pre, List.getElem?_take_of_lt (by omega)]; exact h1
    have ndP : ps.Nodup := by rw [← S.pre]; exact S.nd.sublist (List.take_sublist _ _)
    refine ⟨u, rv, ?_⟩
    rcases S.par y (List.mem_of_getElem? hp) with k | k
    · exact .inl ⟨k, bindL_get ndP hp hu k⟩
    · obtain ⟨c, e⟩ := cell_has (n := s.heap.objs.size + 1) k
      refine .inr ⟨.inl k, c, e, ?_⟩
      have q := x.cell y c e
      rw [bindC_get ndP hp hu (by show scope.names.lookup y ≠ _; rw [k]; decide)] at q
      exact q
  · exact e0.hok.fresh (Nat.le_of_lt (x.above y c (PySem.mem_of_lookup h)))
  · unfold start
    show _ = N.length
    rw [List.length_append, List.length_map, List.length_replicate]
    omega
theorem fn_of {CX : CXT} {P : Program} {w : World} {K : PySem.W.Frag} {mg : Str → Option Value} {base : Heap} {k : Nat} {f : Addr} {name qual : Str} {params : Arguments} {body : List Stmt} {scope : Scope} {dV kV doc pm cdv ct oc : Value} {an od : Option Addr}
    {osl : Array (Option Value)} {N ps : List Str} {sp : Sp} (lk : K.lookup f = some ⟨oc, od, .func (PySem.W.fnOf name qual params body scope dV kV doc pm an cdv ct), osl⟩) (hcd : PySem.W.codeIn K cdv qual = true) (S : FnScope N ps scope)
    (len : ∀ vs H Q E, sp vs H Q E → vs.length = ps.length)
    (hbody : ∀ (A : Around) (outer : List Env) (s : Shared) (H : Hp) (vs : List V) (Q : VK) (E : XK), Room k (A.deeper (envOfC qual scope s.heap.objs.size f cdv)) → sp vs H Q E →
      ∃ t, PSs (cxOf CX P w K mg base N qual scope f cdv A outer s H E) body t ∧ t { nx := fun _ H' => Q .non H', rt := Q } (start N vs) H) :
    FnOk P w K mg base CX (k + 1) f (PySem.W.fnOf name qual params body scope dV kV doc pm an cdv ct) ps sp := by
  refine ⟨len, fun A outer s H args us vs Q E hr e0 hb r hsp => ?_⟩
  have hl := len _ _ _ _ hsp
  have KX : K.In s.heap := e0.mod.kin.keeps fun b o e => (e0.bs b o e).1
  have lim : s.heap.NoLimit := e0.mod.nolimit.keeps fun b o e => (e0.bs b o e).1
  have hkind : ∀ y ∈ ps.zip us, scope.names.lookup y.1 = some .local ∨ (scope.names.lookup y.1 = some .cell ∧ ((cellsFrom (s.heap.objs.size + 1) scope.names []).lookup y.1).isSome = true) := fun ⟨n, v⟩ hy => by
    rcases S.par n (List.of_mem_zip hy).1 with q | q
    · exact .inl q
    · exact .inr ⟨q, PySem.W.cellsFrom_some _ _ _ (.inl q)⟩
  refine codeAny_call_function hr.depth (KX _ _ lk) rfl S.co S.gen rfl (PySem.W.codeRec_of KX hcd) (hb _ _ _ _ ?_)
  refine wpAny_newFunctionEnv_cells S.kind hkind fun env he s1 x => ?_
  subst he
  refine ⟨lim.keeps x.toInCall.keep, codeAny_func ?_⟩
  obtain ⟨t, ht, hq⟩ := hbody A outer s H vs Q E (hr.deeper _) hsp
  have I : Inv (cxOf CX P w K mg base N qual scope f cdv A outer s H E) [] (start N vs) H s1 := inv_start S hr.hd e0 hl r x
  refine wpAny_mono (ht [] s1 (start N vs) H _ I hq) (fun fl s' hs => ?_) fun e s' hs => hs
  have fin : ∀ {σ' : St} {H' : Hp} {v : V} {u : Value}, Inv (cxOf CX P w K mg base N qual scope f cdv A outer s H E) [] σ' H' s' → RelV v u → Q v H' → CE outer P w H s Q u s' :=
    fun {σ' H' v u} J rv q => ⟨v, H', J.os, J.bare, J.base, J.hok, rv, q⟩
  cases fl with
  | ret u =>
    obtain ⟨v, σ', H', J, rv, q⟩ := hs
    exact fin J rv q
  | next =>
    obtain ⟨σ', H', J, q⟩ := hs
    exact fin (v := V.non) (u := Value.none) J rfl q
  | brk =>
    obtain ⟨_, _, _, q⟩ := hs
    exact False.elim q
  | cont =>
    obtain ⟨_, _, _, q⟩ := hs
    exact False.elim q
end L2
namespace L2
open PySem PySem.Spec PyProof.Rows
section
variable {X : Cx} {x : Str} {p pos : Pos} {e : Expr} {es : List Expr} {t : TA} {id T : String} {r : List V → Hp → VK → Prop}
def tCB (r : List V → Hp → VK → Prop) (t : TA) : TE := fun σ H Q => t σ H fun vs H1 => r vs H1 Q
theorem pe_callB (hc : CallR X (.builtin id) r) (hg : Gl X x) (hm : X.mg x = none) (hv : bootBuiltins x = some (.builtin id)) (ha : PA X (e :: es) t) (hn : x ≠ "__name__" := by decide) (hdb : (x == ("__debug__" : Str)) = false := by decide)
    (he : starEach (e :: es) X.env = (false, eval e X.env) :: starEach es X.env := by rfl) (hpl : (backTo pos (starEach es X.env)).any (·.1) = false := by rfl) : PE X (.Call (.Name x p) (e :: es) [] pos) (tCB r t) := by
  intro pins s σ H Q I h
  refine wpAny_Call_Name_kw (ld_blt I hg hm hv ?_ hn hdb)
  exact PyProof.Rows.callWith_builtin1 (thn (ha pos pins s σ H _ I h) fun us s1 ⟨vs, H1, I1, r1, q1⟩ => hc pins s1 σ H1 vs us Q I1 r1 q1) he hpl
theorem pe_callTy (hc : CallR X (.type T) r) (hg : Gl X x) (hm : X.mg x = none) (hv : bootBuiltins x = some (.type T)) (ha : PA X (e :: es) t) (hn : x ≠ "__name__" := by decide) (hdb : (x == ("__debug__" : Str)) = false := by decide)
    (he : starEach (e :: es) X.env = (false, eval e X.env) :: starEach es X.env := by rfl) (hpl : (backTo pos (starEach es X.env)).any (·.1) = false := by rfl) : PE X (.Call (.Name x p) (e :: es) [] pos) (tCB r t) := by
  intro pins s σ H Q I h
  refine wpAny_Call_Name_kw (ld_blt I hg hm hv ?_ hn hdb)
  exact PyProof.Rows.callWith_type1 (thn (ha pos pins s σ H _ I h) fun us s1 ⟨vs, H1, I1, r1, q1⟩ => hc pins s1 σ H1 vs us Q I1 r1 q1) he hpl
end
end L2
namespace HT
open PySem PyProof.Rows
section
open PySem.SeqAt
open PySem.AutoSeq1 (wpAny_loadPart')
open PySem.MeetsSeq PySem.MeetsSeq2 PySem.MeetsSeq3
end
section
variable {prog : Program} {w : World} {A : Around} {E : Value → Shared → Prop} {s : Shared}
def sIx (n d : Nat) : Option Int → Nat
  | none => d
  | some v => if v < 0 then (v + (n : Int)).toNat else min v.toNat n
theorem sIx_none (n d : Nat) : sIx n d none = d := rfl
theorem sIx_nat (n d k : Nat) : sIx n d (some (k : Int)) = min k n := by
  show (if (k : Int) < 0 then ((k : Int) + (n : Int)).toNat else min (k : Int).toNat n) = min k n
  rw [if_neg (by omega), Int.toNat_natCast]
end
end HT
namespace L2
open PySem PySem.Spec PyProof.Rows
abbrev TO := St → Hp → (Option Int → Hp → Prop) → Prop
def PO (X : Cx) (e : Option Expr) (t : TO) : Prop :=
  ∀ (pins : List (Addr × Obj)) (s : Shared) (σ : St) (H : Hp) (Q : Option Int → Hp → Prop), Inv X pins σ H s → t σ H Q →
    wpAny (model X.prog X.w) X.A (evalPart e X.env) (fun u s' => ∃ o H', Inv X pins σ H' s' ∧ IsPart u o ∧ Q o H') X.xe s
def tNoPart : TO := fun _ H Q => Q none H
def tPart (t : TE) : TO := fun σ H Q => t σ H fun x H1 => ∃ i, x = .int i ∧ Q (some i) H1
section
variable {X : Cx} {e : Expr} {te : TE} {lo hi : Option Expr} {tl th : TO} {pos p2 : Pos}
theorem po_none : PO X none tNoPart := by
  intro pins s σ H Q I h
  rw [evalPart_none]
  exact wpAny_pure ⟨none, H, I, .none, h⟩
theorem po_some (h : PE X e te) : PO X (some e) (tPart te) := by
  intro pins s σ H Q I hw
  rw [evalPart_some]
  refine thn (h pins s σ H _ I hw) fun u s1 ⟨x, H1, I1, r1, q1⟩ => ?_
  obtain ⟨i, rfl, q⟩ := q1
  obtain ⟨t, rfl⟩ := r1
  exact ⟨some i, H1, I1, .int i t, q⟩
def SlR (X : Cx) (r : V → Option Int → Option Int → Hp → VK → Prop) : Prop :=
  ∀ (pins : List (Addr × Obj)) (s : Shared) (σ : St) (H : Hp) (x : V) (v vl vu : Value) (lo hi : Option Int) (sl : Addr) (Q : VK), Inv X pins σ H s → RelV x v → s.heap.IsSliceOf sl vl vu .none → IsPart vl lo → IsPart vu hi → r x lo hi H Q →
    ∃ T id, typeLookup (.type T) "__getitem__" = pure (some (.builtin id)) ∧ s.TypeIs v T ∧ wpAny (model X.prog X.w) X.A (getItem v (.ref sl)) (EP X pins σ Q) X.xe s
def tSl (r : V → Option Int → Option Int → Hp → VK → Prop) (te : TE) (tl th : TO) : TE := fun σ H Q => te σ H fun x H1 => tl σ H1 fun l H2 => th σ H2 fun u H3 => r x l u H3 Q
theorem pe_slice {r : V → Option Int → Option Int → Hp → VK → Prop} (hr : SlR X r) (he : PE X e te) (hl : PO X lo tl) (hu : PO X hi th) : PE X (.Subscript e (.Slice lo hi none p2) pos) (tSl r te tl th) := by
  intro pins s σ H Q I h
  refine Subscript_ (thn (he pins s σ H _ I h) fun v s1 ⟨x, H1, I1, r1, q1⟩ => ?_)
  refine wpAny_Slice (thn (hl pins s1 σ H1 _ I1 q1) fun vl s2 ⟨l, H2, I2, pl, q2⟩ => thn (hu pins s2 σ H2 _ I2 q2) fun vu s3 ⟨u, H3, I3, pu, q3⟩ => ?_)
  rw [evalPart_none]
  refine wpAny_pure ?_
  have I4 : Inv X pins σ H3 { s3 with heap := s3.heap.push { cls := .type "slice", data := .fields #[vl, vu, .none] } } := I3.kept (t' := s3.toks) fun b ob q => Heap.get?_push_of_some _ q
  obtain ⟨T, id, hT, ht, hg⟩ := hr pins { s3 with heap := s3.heap.push { cls := .type "slice", data := .fields #[vl, vu, .none] } } σ H3 x v vl vu l u s3.heap.objs.size Q I4 r1 (Heap.IsSliceOf.new ..) pl pu q3
  show wpAny (model X.prog X.w) X.A (subscriptTail e (.Slice lo hi none p2) v (.ref s3.heap.objs.size)) (EP X pins σ Q) X.xe { s3 with heap := s3.heap.push { cls := .type "slice", data := .fields #[vl, vu, .none] } }
  exact tail_any (ops := [.ref s3.heap.objs.size, v]) ht hT hg (by with_unfolding_all rfl)
def cutV (xs : List V) (lo hi : Option Int) : List V := (xs.drop (HT.sIx xs.length 0 lo)).take (HT.sIx xs.length xs.length hi - HT.sIx xs.length 0 lo)
theorem cutV_length (xs : List V) (lo hi : Option Int) : (cutV xs lo hi).length ≤ xs.length := by
  unfold cutV
  rw [List.length_take, List.length_drop]
  omega
end
end L2
namespace L2
open PySem PySem.Spec PyProof.Rows
def ixN (n : Nat) (i : Int) : Option Nat := if 0 ≤ i then (if i < n then some i.toNat else none) else if -(n : Int) ≤ i then some (i + n).toNat else none
def atI {α : Type} (xs : List α) (i : Int) : Option α := (ixN xs.length i).bind fun j => xs[j]?
theorem ixN_seq {n : Nat} {i : Int} {j : Nat} (h : ixN n i = some j) : seqIndex? i n = some j ∧ j < n ∧ -(n : Int) ≤ i ∧ i < n := by
  unfold ixN at h
  by_cases h0 : 0 ≤ i
  · rw [if_pos h0] at h
    by_cases h1 : i < n
    · rw [if_pos h1] at h
      have e : i.toNat = j := Option.some.inj h
      exact ⟨by rw [seqIndex_of h0 h1, e], by omega, by omega, h1⟩
    · rw [if_neg h1] at h; cases h
  · rw [if_neg h0] at h
    by_cases h1 : -(n : Int) ≤ i
    · rw [if_pos h1] at h
      have e : (i + n).toNat = j := Option.some.inj h
      exact ⟨by rw [seqIndex_neg (by omega) h1, e], by omega, h1, by omega⟩
    · rw [if_neg h1] at h; cases h
theorem atI_get {α : Type} {xs : List α} {i : Int} {v : α} (h : atI xs i = some v) : ∃ j, seqIndex? i xs.length = some j ∧ xs[j]? = some v ∧ j < xs.length ∧ -(xs.length : Int) ≤ i ∧ i < xs.length := by
  unfold atI at h
  cases e : ixN xs.length i with
  | none => rw [e] at h; cases h
  | some j =>
    rw [e] at h
    obtain ⟨h1, h2, h3, h4⟩ := ixN_seq e
    exact ⟨j, h1, h, h2, h3, h4⟩
theorem atI_nat {α : Type} {xs : List α} {j : Nat} {v : α} (h : xs[j]? = some v) : atI xs (j : Int) = some v := by
  have hj : j < xs.length := (List.getElem?_eq_some_iff.mp h).1
  have e : ixN xs.length (j : Int) = some j := by
    unfold ixN
    rw [if_pos (by omega), if_pos (by omega)]; simp
  unfold atI; rw [e]; exact h
def PlainIx (b : Expr) : Prop := ∀ o i, subscripted b false o i = operate [o, i] (getItem o i)
def IxR (X : Cx) (r : R2) : Prop :=
  ∀ (value slice : Expr) (pins : List (Addr × Obj)) (s : Shared) (σ : St) (H : Hp) (x y : V) (v u : Value) (Q : VK), Inv X pins σ H s → RelV x v → RelV y u → r x y H Q →
    subscripted slice false v u = operate [v, u] (getItem v u) → wpAny (model X.prog X.w) X.A (subscriptTail value slice v u) (EP X pins σ Q) X.xe s
def MtR (X : Cx) (id : String) (r : V → List V → Hp → VK → Prop) : Prop :=
  ∀ (pins : List (Addr × Obj)) (s : Shared) (σ : St) (H : Hp) (x : V) (xs : List V) (v : Value) (us : List Value) (Q : VK), Inv X pins σ H s → RelV x v → Vals xs us → r x xs H Q →
    wpAny (model X.prog X.w) X.A (call (.builtin id) (v :: us)) (EP X pins σ Q) X.xe s
section
variable {X : Cx} {a b : Expr} {ta tb : TE} {pos : Pos}
theorem pe_ix {r : R2} (hr : IxR X r) (ha : PE X a ta) (hb : PE X b tb) (hs : PlainIx b) : PE X (.Subscript a b pos) (tOp r ta tb) := by
  intro pins s σ H Q I h
  exact Subscript_ (binT ha hb I h fun v u s2 x y H2 I2 rx ry q => hr a b pins s2 σ H2 x y v u Q I2 rx ry q (hs _ _))
def rIxL (K : PySem.W.Frag) : R2 := fun x y H Q => ∃ p xs i v, x = .ref p ∧ y = .int i ∧ SqL K H p xs ∧ atI xs i = some v ∧ Q v H
def rIxT (K : PySem.W.Frag) : R2 := fun x y H Q => ∃ p xs i v, x = .ref p ∧ y = .int i ∧ SqT K H p xs ∧ atI xs i = some v ∧ Q v H
def rIxS : R2 := fun x y H Q => ∃ z i c, x = .str z ∧ y = .int i ∧ z.length ≤ sizeLine ∧ atI z.cps.toList i = some c ∧ Q (.str ⟨#[c]⟩) H
theorem ix_list : IxR X (rIxL X.K) := by
  intro value slice pins s σ H x y v u Q I rx ry h hs
  obtain ⟨p, xs, i, z, rfl, rfl, hq, he, q⟩ := h
  cases rx
  obtain ⟨t, rfl⟩ := ry
  obtain ⟨its, r, pl, hz⟩ := I.list hq
  obtain ⟨j, h1, h2, h3, h4, h5⟩ := atI_get he
  obtain ⟨w, ew, rw'⟩ := r.get h2
  have hl := r.length
  have hn := line63
  have fin : EP X pins σ Q w s := ⟨z, H, I, rw', q⟩
  by_cases h0 : 0 ≤ i
  · have hj : i.toNat = j := by
      rw [seqIndex_of h0 h5] at h1
      exact Option.some.inj h1
    exact item_listR pl.isList h0 (by omega) (by rw [hj]; simpa using ew) fin hs
  · have hj : (i + (its.toArray.size : Int)).toNat = j := by
      rw [seqIndex_neg (by omega) h4] at h1
      rw [List.size_toArray, ← hl]
      exact Option.some.inj h1
    exact subscriptTail_builtinR (x := w) pl.isList.typeIs slot_list_getitem.lookup
      (wpAny_getItem_list_neg (Q := fun r s' => r = w ∧ EP X pins σ Q r s') pl.isList (by omega) (by rw [List.size_toArray] <;> omega) (by omega) (by rw [hj]; simpa using ew) ⟨rfl, fin⟩) hs
theorem ix_tup : IxR X (rIxT X.K) := by
  intro value slice pins s σ H x y v u Q I rx ry h hs
  obtain ⟨p, xs, i, z, rfl, rfl, hq, he, q⟩ := h
  cases rx
  obtain ⟨t, rfl⟩ := ry
  obtain ⟨its, r, pl, hz⟩ := I.tuple hq
  obtain ⟨j, h1, h2, h3, h4, h5⟩ := atI_get he
  obtain ⟨w, ew, rw'⟩ := r.get h2
  have hl := r.length
  have hn := line63
  have fin : EP X pins σ Q w s := ⟨z, H, I, rw', q⟩
  exact subscriptTail_builtinR (x := w) pl.typeIs slot_tuple_getitem.lookup
    (getItem_tuple (j := j) (Q := fun r s' => r = w ∧ EP X pins σ Q r s') pl (by omega) (by omega) (by rw [List.size_toArray, ← hl]; exact h1) (by simpa using ew) ⟨rfl, fin⟩) hs
theorem ix_str : IxR X rIxS := by
  intro value slice pins s σ H x y v u Q I rx ry h hs
  obtain ⟨z, i, c, rfl, rfl, hz, he, q⟩ := h
  obtain ⟨t, rfl⟩ := rx
  obtain ⟨t', rfl⟩ := ry
  obtain ⟨j, h1, h2, h3, h4, h5⟩ := atI_get he
  have hl : z.cps.toList.length = z.length := by simp [Str.length]
  rw [hl] at h1 h4 h5
  have hn := line63
  exact tail_any (typeIs_str s z t) slot_str_getitem.lookup (getItem_str (c := c) (by
    have e1 : decide (i < -(2 ^ 63 : Int)) = false := decide_eq_false (by omega)
    have e2 : decide (i ≥ 2 ^ 63) = false := decide_eq_false (by omega)
    rw [e1, e2, Bool.or_false]) (by rw [h1]; simpa using h2) ⟨.str ⟨#[c]⟩, H, I.tok _, ⟨_, rfl⟩, q⟩) hs
theorem mapSeq_set (its : List Value) (n j : Nat) (u : Value) : Obj.mapSeq (·.setIfInBounds j u) { cls := .type "list", data := .seq its.toArray n } = { cls := .type "list", data := .seq (its.set j u).toArray n } := by
  simp [Obj.mapSeq]
theorem Inv.lst {pins : List (Addr × Obj)} {σ : St} {H : Hp} {s : Shared} {p : Addr} {xs : List V} (I : Inv X pins σ H s) (h : H p = some (.lst xs)) :
    ∃ (its : List Value) (n : Nat), Vals xs its ∧ s.heap.get? p = some { cls := .type "list", data := .seq its.toArray n } ∧ xs.length ≤ sizeLine := by
  obtain ⟨z, its, n, r, e⟩ := I.hok p _ h
  exact ⟨its, n, r, e, z⟩
theorem Inv.lstUpd {pins : List (Addr × Obj)} {σ : St} {H : Hp} {s : Shared} {p : Addr} {xs ys : List V} {its its' : List Value} {n n' : Nat} {f : Obj → Obj} (I : Inv X pins σ H s) (h : H p = some (.lst xs))
    (ho : s.heap.get? p = some { cls := .type "list", data := .seq its.toArray n }) (hf : f { cls := .type "list", data := .seq its.toArray n } = { cls := .type "list", data := .seq its'.toArray n' }) (r : Vals ys its') (hz : ys.length ≤ sizeLine) (t : Nat) :
    Inv X pins σ (upd H p (.lst ys)) { s with heap := s.heap.update p f, toks := t } := by
  have e : (s.heap.update p f).get? p = some { cls := .type "list", data := .seq its'.toArray n' } := by
    rw [Heap.get?_update_self f ho (by rw [hf] <;> rfl), hf]
  refine I.write (x := p) (e := p) (by rw [h]; trivial) (.inl rfl) (fun b u hb q => (Heap.get?_update_other _ _ (Ne.symm hb)).trans q) ⟨_, e⟩ ?_
  exact ⟨hz, its', n', r, e⟩
def rSetL : V → V → V → Hp → (Hp → Prop) → Prop := fun o i v H Q => ∃ p xs k j, o = .ref p ∧ i = .int k ∧ H p = some (.lst xs) ∧ ixN xs.length k = some j ∧ Q (upd H p (.lst (xs.set j v)))
theorem set_list : PSet X rSetL := by
  intro pins s σ H o i v ov iv u Q I ro ri rv h
  obtain ⟨p, xs, k, j, rfl, rfl, hp, hj, q⟩ := h
  cases ro
  obtain ⟨t, rfl⟩ := ri
  obtain ⟨its, n, r, ho, hz⟩ := I.lst hp
  obtain ⟨h1, h2, h3, h4⟩ := ixN_seq hj
  have hl := r.length
  have hn := line63
  have I' : Inv X pins σ (upd H p (.lst (xs.set j v))) { s with heap := s.heap.update p (Obj.mapSeq (·.setIfInBounds j u)) } :=
    I.lstUpd hp ho (mapSeq_set its n j u) (r.set rv j) (by rw [List.length_set]; exact hz) s.toks
  by_cases h0 : 0 ≤ k
  · have hk : k.toNat = j := by
      rw [seqIndex_of h0 h4] at h1
      exact Option.some.inj h1
    exact PySem.W.ki_setAt ho h0 (by omega) (by rw [List.size_toArray, ← hl]; exact h4) (by rw [hk]; exact ⟨_, I', q⟩)
  · have hk : (k + (its.toArray.size : Int)).toNat = j := by
      rw [seqIndex_neg (by omega) h3] at h1
      rw [List.size_toArray, ← hl]
      exact Option.some.inj h1
    exact PySem.W.ki_setBack ho (by omega) (by rw [List.size_toArray, ← hl]; exact h3) (by omega) (by rw [hk]; exact ⟨_, I', q⟩)
theorem slice_bounds (lo hi : Option Int) (n : Nat) : (sliceBounds lo hi none n).1 = ((HT.sIx n 0 lo : Nat) : Int) ∧ (sliceBounds lo hi none n).2.1 = ((HT.sIx n n hi : Nat) : Int) ∧ (sliceBounds lo hi none n).2.2 = 1 := by
  refine ⟨?_, ?_, rfl⟩
  · cases lo with
    | none => simp [sliceBounds, HT.sIx]
    | some i =>
      simp only [sliceBounds, HT.sIx, Option.getD_none, show (1 : Int) > 0 by decide, if_true]
      by_cases h : i < 0
      · simp only [h, if_true] <;> omega
      · simp only [h, if_false] <;> omega
  · cases hi with
    | none => simp [sliceBounds, HT.sIx]
    | some i =>
      simp only [sliceBounds, HT.sIx, Option.getD_none, show (1 : Int) > 0 by decide, if_true]
      by_cases h : i < 0
      · simp only [h, if_true] <;> omega
      · simp only [h, if_false] <;> omega
theorem slicePick_cut (its : List Value) (lo hi : Option Int) : slicePick its.toArray lo hi none = ((its.drop (HT.sIx its.length 0 lo)).take (HT.sIx its.length its.length hi - HT.sIx its.length 0 lo)).toArray := by
  obtain ⟨h1, h2, h3⟩ := slice_bounds lo hi its.toArray.size
  unfold slicePick
  rw [h1, h2, h3]
  simp only [sliceRange_one, pick_run, List.size_toArray] <;> rfl
def rSlL (K : PySem.W.Frag) : V → Option Int → Option Int → Hp → VK → Prop := fun x lo hi H Q => ∃ a xs, x = .ref a ∧ SqL K H a xs ∧ ∀ p, H p = none → Q (.ref p) (upd H p (.lst (cutV xs lo hi)))
theorem sl_list : SlR X (rSlL X.K) := by
  intro pins s σ H x v vl vu lo hi sl Q I rx hs pl pu h
  obtain ⟨a, xs, rfl, hx, q⟩ := h
  cases rx
  obtain ⟨its, r, ht, hz⟩ := I.list hx
  have hlen := r.length
  refine ⟨"list", _, slot_list_getitem.lookup, ht.isList.typeIs, ?_⟩
  refine wpAny_getItem_list_slice ht.isList hs pl pu .none (by simp) ?_ (by rw [List.size_toArray] <;> omega)
  rw [slicePick_cut, ← hlen]
  refine ⟨.ref s.heap.objs.size, _, I.laid (t' := s.toks) (o := .lst (cutV xs lo hi)) (fun b ob q => Heap.get?_push_of_some _ q) (Nat.le_refl _) ?_, rfl, q _ (I.hok.fresh (Nat.le_refl _))⟩
  exact ⟨Nat.le_trans (cutV_length xs lo hi) hz, _, 0, (r.drop (HT.sIx xs.length 0 lo)).take (HT.sIx xs.length xs.length hi - HT.sIx xs.length 0 lo), Heap.get?_push_size _ rfl⟩
def flatV : V → Bool
  | .non => true
  | .bl _ => true
  | .int _ => true
  | .str _ => true
  | _ => false
def eqV : V → V → Bool
  | .non, .non => true
  | .bl a, .bl b => a == b
  | .bl a, .int b => (if a then 1 else 0) == b
  | .int a, .bl b => a == (if b then 1 else 0)
  | .int a, .int b => a == b
  | .str a, .str b => a == b
  | _, _ => false
theorem eqAt_V {A : Around} {s : Shared} {y x : V} {u v : Value} (ry : RelV y u) (rx : RelV x v) (fy : flatV y = true) (fx : flatV x = true) : SeqAt.EqAt A s u v (eqV y x) := by
  cases y with
  | non =>
    cases ry
    cases x with
    | non => cases rx; exact SeqAt.EqAt.same _
    | bl b => cases rx; exact SeqAt.EqAt.none_bool b
    | int b => obtain ⟨t, rfl⟩ := rx; exact SeqAt.EqAt.none_int b t
    | str b => obtain ⟨t, rfl⟩ := rx; exact SeqAt.EqAt.none_str b t
    | _ => exact absurd (show false = true from fx) Bool.false_ne_true
  | bl a =>
    cases ry
    cases x with
    | non => cases rx; exact SeqAt.EqAt.bool_none a
    | bl b => cases rx; exact SeqAt.EqAt.bool_bool a b
    | int b => obtain ⟨t, rfl⟩ := rx; exact SeqAt.EqAt.bool_int a b t
    | str b => obtain ⟨t, rfl⟩ := rx; exact SeqAt.EqAt.bool_str a b t
    | _ => exact absurd (show false = true from fx) Bool.false_ne_true
  | int a =>
    obtain ⟨t', rfl⟩ := ry
    cases x with
    | non => cases rx; exact SeqAt.EqAt.int_none a t'
    | bl b => cases rx; exact SeqAt.EqAt.int_bool a t' b
    | int b => obtain ⟨t, rfl⟩ := rx; exact SeqAt.EqAt.int_int a t' b t
    | str b => obtain ⟨t, rfl⟩ := rx; exact SeqAt.EqAt.int_str a t' b t
    | _ => exact absurd (show false = true from fx) Bool.false_ne_true
  | str a =>
    obtain ⟨t', rfl⟩ := ry
    cases x with
    | non => cases rx; exact SeqAt.EqAt.str_none a t'
    | bl b => cases rx; exact SeqAt.EqAt.str_bool a t' b
    | int b => obtain ⟨t, rfl⟩ := rx; exact SeqAt.EqAt.str_int a t' b t
    | str b => obtain ⟨t, rfl⟩ := rx; exact SeqAt.EqAt.str_str a t' b t
    | _ => exact absurd (show false = true from fx) Bool.false_ne_true
  | _ => exact absurd (show false = true from fy) Bool.false_ne_true
def eqU (x : V) (u : Value) : Bool := match u with
  | .none => eqV .non x
  | .bool b => eqV (.bl b) x
  | .int i _ => eqV (.int i) x
  | .str z _ => eqV (.str z) x
  | _ => false
theorem eqU_of {x y : V} {u : Value} (r : RelV y u) (f : flatV y = true) : eqU x u = eqV y x := by
  cases y with
  | non => cases r; rfl
  | bl b => cases r; rfl
  | int i => obtain ⟨t, rfl⟩ := r; rfl
  | str z => obtain ⟨t, rfl⟩ := r; rfl
  | _ => exact absurd (show false = true from f) Bool.false_ne_true
theorem any_eqU {x : V} : ∀ {xs : List V} {us : List Value}, Vals xs us → xs.all flatV = true → us.any (eqU x) = xs.any fun y => eqV y x
  | _, _, .nil, _ => rfl
  | y :: xs, u :: us, .cons r t, f => by
    rw [List.all_cons, Bool.and_eq_true] at f
    rw [List.any_cons, List.any_cons, eqU_of r f.1, any_eqU t f.2]
theorem mem_eqAt {A : Around} {s : Shared} {x : V} {v : Value} (rx : RelV x v) (fx : flatV x = true) : ∀ {xs : List V} {us : List Value}, Vals xs us → xs.all flatV = true → ∀ u ∈ us, SeqAt.EqAt A s u v (eqU x u)
  | _, _, .nil, _ => fun u hu => by cases hu
  | y :: xs, u :: us, .cons r t, f => fun u' hu => by
    rw [List.all_cons, Bool.and_eq_true] at f
    rcases List.mem_cons.mp hu with rfl | hu
    · rw [eqU_of r f.1]; exact eqAt_V r rx f.1 fx
    · exact mem_eqAt rx fx t f.2 u' hu
def inV (x : V) (xs : List V) : Bool := xs.any fun y => eqV y x
def rIn (K : PySem.W.Frag) (neg : Bool) : R2 := fun x y H Q => ∃ p xs, y = .ref p ∧ (SqL K H p xs ∨ SqT K H p xs) ∧ flatV x = true ∧ xs.all flatV = true ∧ Q (.bl (if neg then !inV x xs else inV x xs)) H
theorem op_in_seq : OpR X (compareOp .In) (rIn X.K false) := by
  intro pins s σ H x y v u Q I rx ry h
  obtain ⟨p, xs, rfl, hq, fx, fs, q⟩ := h
  cases ry
  rcases hq with hq | hq
  · obtain ⟨its, r, pl, hz⟩ := I.list hq
    refine SeqAt.in_listAt (eqU x) pl.isList (fun w hw => mem_eqAt rx fx r fs w (by simpa using hw)) ⟨.bl _, H, I, rfl, ?_⟩
    rw [show its.toArray.any (eqU x) = its.any (eqU x) by simp, any_eqU r fs]
    exact q
  · obtain ⟨its, r, pl, hz⟩ := I.tuple hq
    refine SeqAt.in_tupleAt (eqU x) pl (fun w hw => mem_eqAt rx fx r fs w (by simpa using hw)) ⟨.bl _, H, I, rfl, ?_⟩
    rw [show its.toArray.any (eqU x) = its.any (eqU x) by simp, any_eqU r fs]
    exact q
theorem op_notIn_seq : OpR X (compareOp .NotIn) (rIn X.K true) := by
  intro pins s σ H x y v u Q I rx ry h
  obtain ⟨p, xs, rfl, hq, fx, fs, q⟩ := h
  cases ry
  rcases hq with hq | hq
  · obtain ⟨its, r, pl, hz⟩ := I.list hq
    refine SeqAt.notIn_listAt (eqU x) pl.isList (fun w hw => mem_eqAt rx fx r fs w (by simpa using hw)) ⟨.bl _, H, I, rfl, ?_⟩
    rw [show its.toArray.any (eqU x) = its.any (eqU x) by simp, any_eqU r fs]
    exact q
  · obtain ⟨its, r, pl, hz⟩ := I.tuple hq
    refine SeqAt.notIn_tupleAt (eqU x) pl (fun w hw => mem_eqAt rx fx r fs w (by simpa using hw)) ⟨.bl _, H, I, rfl, ?_⟩
    rw [show its.toArray.any (eqU x) = its.any (eqU x) by simp, any_eqU r fs]
    exact q
theorem call_len_seq : CallR X (.builtin "len") (fun xs H Q => ∃ p ys, xs = [.ref p] ∧ (SqL X.K H p ys ∨ SqT X.K H p ys) ∧ Q (.int ys.length) H) := by
  intro pins s σ H xs us Q I r h
  obtain ⟨p, ys, rfl, hq, q⟩ := h
  obtain ⟨u, rfl, rx⟩ := vals1 r
  cases rx
  have hn := line63
  rcases hq with hq | hq
  · obtain ⟨its, r', pl, hz⟩ := I.list hq
    have hlen := r'.length
    exact Calls.call_len_list pl.isList (by simp only [List.size_toArray] <;> omega) ⟨.int ys.length, H, I.tok _, ⟨s.toks + 1, by rw [List.size_toArray, hlen]⟩, q⟩
  · obtain ⟨its, r', pl, hz⟩ := I.tuple hq
    have hlen := r'.length
    exact len_tuple pl (by simp only [List.size_toArray] <;> omega) ⟨.int ys.length, H, I.tok _, ⟨s.toks + 1, by rw [List.size_toArray, hlen]⟩, q⟩
theorem call_len_str : CallR X (.builtin "len") (fun xs H Q => ∃ z, xs = [.str z] ∧ z.length ≤ sizeLine ∧ Q (.int z.length) H) := by
  intro pins s σ H xs us Q I r h
  obtain ⟨z, rfl, hz, q⟩ := h
  obtain ⟨u, rfl, t, rfl⟩ := vals1 r
  have hn := line63
  exact len_str (by omega) ⟨.int z.length, H, I.tok _, ⟨_, rfl⟩, q⟩
theorem call_tuple_of : CallR X (.type "tuple") (fun xs H Q => ∃ p ys, xs = [.ref p] ∧ ((SqL X.K H p ys ∧ ∀ l, H l = none → Q (.ref l) (upd H l (.tup ys))) ∨ (SqT X.K H p ys ∧ Q (.ref p) H))) := by
  intro pins s σ H xs us Q I r h
  obtain ⟨p, ys, rfl, h⟩ := h
  obtain ⟨u, rfl, rx⟩ := vals1 r
  cases rx
  rcases h with ⟨hq, q⟩ | ⟨hq, q⟩
  · obtain ⟨its, r', pl, hz⟩ := I.list hq
    have hlen := r'.length
    refine call_tuple_list pl.isList (fun h' kp => ?_) (by simp only [List.size_toArray] <;> omega)
    have I1 : Inv X pins σ H { s with heap := h' } := I.kept (t' := s.toks) kp
    have I2 : Inv X pins σ (upd H h'.objs.size (.tup ys)) { s with heap := h'.push { cls := .type "tuple", data := .seq its.toArray } } :=
      I1.laid (t' := s.toks) (fun b o e => Heap.get?_push_of_some _ e) (Nat.le_refl _) (show ObjOk X.prog X.w _ _ _ (.tup ys) from ⟨hz, its, r', TupP.new _ _⟩)
    exact ⟨.ref h'.objs.size, _, I2, rfl, q _ (I1.hok.fresh (Nat.le_refl _))⟩
  · obtain ⟨its, r', pl, hz⟩ := I.tuple hq
    exact call_tuple_same pl ⟨.ref p, H, I, rfl, q⟩
def tyV (K : PySem.W.Frag) (T : String) (x : V) (H : Hp) : Prop := match x with
  | .str _ => T = "str"
  | .int _ => T = "int"
  | .ref p => (T = "list" ∧ ∃ xs, SqL K H p xs) ∨ (T = "tuple" ∧ ∃ o, K.lookup p = some o ∧ o.cls = .type "tuple" ∧ o.dict = none) ∨
      (T = "dict" ∧ ((∃ kvs, H p = some (.dK kvs)) ∨ ∃ kvs, H p = some (.dT kvs))) ∨ (T = "set" ∧ ∃ S n, H p = some (.set S n))
  | _ => False
theorem tyV_is {pins : List (Addr × Obj)} {σ : St} {H : Hp} {s : Shared} {T : String} {x : V} {v : Value} (I : Inv X pins σ H s) (r : RelV x v) (ty : tyV X.K T x H) :
    s.TypeIs v T ∧ ∀ a, v = .ref a → ∃ ob, s.heap.get? a = some ob ∧ ob.dict = none := by
  cases x with
  | str z =>
    obtain ⟨t, rfl⟩ := r
    cases (show T = "str" from ty)
    exact ⟨typeIs_str s z t, fun _ e => nomatch e⟩
  | int i =>
    obtain ⟨t, rfl⟩ := r
    cases (show T = "int" from ty)
    exact ⟨typeIs_int s i t, fun _ e => nomatch e⟩
  | ref p =>
    cases r
    rcases ty with ⟨rfl, xs, hq⟩ | ⟨rfl, o, hk, hc, hd⟩ | ⟨rfl, hk⟩ | ⟨rfl, S, n, hk⟩
    · obtain ⟨its, _, pl, _⟩ := I.list hq
      refine ⟨pl.isList.typeIs, fun a e => ?_⟩
      cases e
      obtain ⟨o, n, e, c, hd, _⟩ := pl
      exact ⟨o, e, hd⟩
    · refine ⟨⟨o, I.kIn p o hk, hc⟩, fun a e => ?_⟩
      cases e
      exact ⟨o, I.kIn _ o hk, hd⟩
    · have z : ∃ o, s.heap.get? p = some o ∧ o.ExactDict := by
        rcases hk with ⟨kvs, hk⟩ | ⟨kvs, hk⟩
        · obtain ⟨_, _, _, _, o, _, _, e, ex, _⟩ := I.hok p _ hk
          exact ⟨o, e, ex⟩
        · obtain ⟨_, _, _, _, o, _, _, e, ex, _⟩ := I.hok p _ hk
          exact ⟨o, e, ex⟩
      obtain ⟨o, e, ex⟩ := z
      refine ⟨⟨o, e, ex.1⟩, fun a e2 => ?_⟩
      cases e2
      exact ⟨o, e, ex.2.1⟩
    · obtain ⟨o, _, _, _, e, ex, _⟩ := I.hok p _ hk
      refine ⟨⟨o, e, ex.1⟩, fun a e2 => ?_⟩
      cases e2
      exact ⟨o, e, ex.2.1⟩
  | _ => exact False.elim ty
def tBM (K : PySem.W.Frag) (T : String) (r : V → List V → Hp → VK → Prop) (to : TE) (t : TA) : TE := fun σ H Q => to σ H fun x H1 => tyV K T x H1 ∧ t σ H1 fun xs H2 => r x xs H2 Q
variable {o e : Expr} {es : List Expr} {to : TE} {t : TA} {name : Str} {apos cpos : Pos} {T id : String} {r : V → List V → Hp → VK → Prop}
theorem pe_bm (pa : PlainAttrs T) (slot : Slot T name id) (hty : typeOf (.builtin id) = pure (.type "method_descriptor")) (hm : MtR X id r) (ho : PE X o to) (ha : PA X (e :: es) t)
    (hbase : attributeBase o name X.env (eval o X.env) = eval o X.env := by rfl)
    (hfew : ((backTo cpos (starEach (e :: es) X.env)).all (fun x => !x.1) && (backToKw cpos (keywordEach [] X.env)).all (fun x => x.1.isSome)
      && decide ((e :: es).length + ([] : List Keyword).length + (if ([] : List Keyword).isEmpty then 0 else 1) < 30)) = true := by rfl)
    (hline : (apos.endLine == cpos.line) = true := by rfl) (hs : starEach (e :: es) X.env = (false, eval e X.env) :: starEach es X.env := by rfl) (hplain : (backTo cpos (starEach es X.env)).any (·.1) = false := by rfl) :
    PE X (.Call (.Attribute o name apos) (e :: es) [] cpos) (tBM X.K T r to t) := by
  intro pins s σ H Q I h
  refine wpAny_Call_method_late hbase hfew hline rfl (thn (ho pins s σ H _ I h) fun v s1 ⟨x, H1, I1, r1, ty, q1⟩ => ?_)
  obtain ⟨h1, h2⟩ := tyV_is I1 r1 ty
  refine ⟨T, id, pa, slot, hty, h1, h2, ?_⟩
  have hA := ha cpos pins s1 σ H1 _ I1 q1
  rw [hs] at hA ⊢
  refine Calls.callWith_builtin (by show (false || (backTo cpos (starEach es X.env)).any (·.1)) = false; rw [hplain] <;> rfl) (Calls.evalArgs_plain ?_)
  exact thn hA fun us s2 ⟨vs, H2, I2, r2, q2⟩ => hm pins s2 σ H2 x vs v us Q I2 r1 r2 q2
/- xs.append(e), list.index on a module's tuple .. are MtR facts of 06m -/
end
end L2
namespace L2
open PySem PySem.Spec PyProof.Rows
def MtM (X : Cx) (id : String) (r : V → List V → Hp → VK → Prop) : Prop :=
  ∀ (pins : List (Addr × Obj)) (s : Shared) (σ : St) (H : Hp) (x : V) (xs : List V) (v : Value) (us : List Value) (Q : VK), Inv X pins σ H s → RelV x v → Vals xs us → r x xs H Q →
    wpAny (model X.prog X.w) X.A (call (.builtin id) (v :: us)) (EP X pins σ Q) X.xe s
theorem Vals.one : ∀ {x : V} {us : List Value}, Vals [x] us → ∃ u, us = [u] ∧ RelV x u
  | _, _, .cons r .nil => ⟨_, rfl, r⟩
section
variable {X : Cx} {pins : List (Addr × Obj)} {σ : St} {H : Hp} {s : Shared} {l b : Addr} {xs ys zs : List V}
theorem Inv.lset {its its' : List Value} {n : Nat} {f : Array Value → Array Value} {t' : Nat} (I : Inv X pins σ H s) (hH : H l = some (.lst xs))
    (e : s.heap.get? l = some { cls := .type "list", data := .seq its.toArray n }) (hf : f its.toArray = its'.toArray) (hv : Vals ys its') (hz : ys.length ≤ sizeLine) :
    Inv X pins σ (upd H l (.lst ys)) { s with heap := s.heap.update l (Obj.mapSeq f), toks := t' } := by
  have q := PySem.IsL.update e f
  rw [hf] at q
  refine I.write (x := l) (e := l) (by rw [hH]; exact trivial) (.inl rfl) (fun b' u hb hu => (Heap.get?_update_other s.heap (Obj.mapSeq f) (Ne.symm hb)).trans hu) ⟨_, q⟩ ?_
  exact ⟨hz, its', _, hv, q⟩
theorem Inv.lnew {its : List Value} {t' : Nat} (I : Inv X pins σ H s) (hv : Vals ys its) (hz : ys.length ≤ sizeLine) :
    Inv X pins σ (upd H s.heap.objs.size (.lst ys)) { s with heap := s.heap.push { cls := .type "list", data := .seq its.toArray }, toks := t' } :=
  I.laid (fun _ _ q => Heap.get?_push_of_some _ q) (Nat.le_refl _) ⟨hz, its, 0, hv, Heap.get?_push_size _ rfl⟩
theorem Inv.fresh (I : Inv X pins σ H s) : H s.heap.objs.size = none := I.hok.fresh (Nat.le_refl _)
theorem Inv.lstM (I : Inv X pins σ H s) (hH : H l = some (.lst xs)) : xs.length ≤ sizeLine ∧ ∃ (its : List Value) (n : Nat), Vals xs its ∧ xs.length = its.length ∧ s.heap.get? l = some { cls := .type "list", data := .seq its.toArray n } := by
  obtain ⟨z, its, n, r, e⟩ := I.hok l _ hH
  exact ⟨z, its, n, r, r.length, e⟩
end
section
variable {X : Cx}
def rAppend : V → List V → Hp → VK → Prop := fun x vs H Q => ∃ l xs y, x = .ref l ∧ vs = [y] ∧ H l = some (.lst xs) ∧ xs.length < sizeLine ∧ Q .non (upd H l (.lst (xs ++ [y])))
theorem mt_append : MtM X "list.append" rAppend := by
  intro pins s σ H x vs v us Q I rx rv h
  obtain ⟨l, xs, y, rfl, rfl, hH, hz, q⟩ := h
  cases rx
  obtain ⟨u, rfl, ru⟩ := rv.one
  obtain ⟨z, its, n, r, hl, e⟩ := I.lstM hH
  refine call_meets F.slot_list_append ⟨_, e, rfl⟩ F.entry_list_append (F.args_list_append_2 _ _) (PySem.list_append l its.toArray n u (by rw [List.size_toArray]; omega)) ⟨e, ?_⟩
  refine ⟨.non, _, I.lset (its' := its ++ [u]) hH e (by simp) (r.append (.cons ru .nil)) ?_, rfl, q⟩
  rw [List.length_append, List.length_singleton]
  omega
def rCat : R2 := fun x y H Q => ∃ l b xs zs, x = .ref l ∧ y = .ref b ∧ H l = some (.lst xs) ∧ H b = some (.lst zs) ∧ xs.length + zs.length ≤ sizeLine ∧ ∀ p, H p = none → Q (.ref p) (upd H p (.lst (xs ++ zs)))
theorem op_cat : OpR X (binaryOp .Add) rCat := by
  intro pins s σ H x y v u Q I rx ry h
  obtain ⟨l, b, xs, zs, rfl, rfl, hH, hB, hz, q⟩ := h
  cases rx
  cases ry
  obtain ⟨z, its, n, r, hl, e⟩ := I.lstM hH
  obtain ⟨z2, its2, n2, r2, hl2, e2⟩ := I.lstM hB
  refine PySem.P.add_list e e2 ?_ (by rw [List.size_toArray, List.size_toArray]; omega)
  have ea : its.toArray ++ its2.toArray = (its ++ its2).toArray := by simp
  rw [ea]
  exact ⟨.ref _, _, I.lnew (t' := s.toks) (r.append r2) (by rw [List.length_append]; omega), rfl, q _ I.fresh⟩
end
end L2
namespace Att
open PySem PySem.W PySem.Calls PyProof.Rows
theorem ints_of_wellAll {P : Params} {h : Heap} : ∀ (ns : List Int) (vs : List Value), WellAll P h vs (ns.map WData.int) → IntsAre vs ns := by
  intro ns
  induction ns with
  | nil =>
    intro vs w
    rw [List.map_nil] at w
    cases w
    exact .nil
  | cons n ns ih =>
    intro vs w
    rw [List.map_cons] at w
    cases w with
    | cons a b =>
      cases a
      exact .cons _ _ (ih _ b)
theorem script_of {l : OpenLaw} {n : Nat} (hn : l.most = some n) {P : Params} {h : Heap} {args : List WData} {vals : List Value}
    (hpre : l.row.toRowW.claim.pre args = true) (hwl : WellAll P h vals args) :
    ∃ a vs ns, vals = [Value.ref a] ∧ args = [WData.list (ns.map WData.int)] ∧ h.get? a = some { cls := .type "list", data := .seq vs.toArray } ∧ IntsAre vs ns ∧ ns.length ≤ n := by
  have hsh : WShape.hasAll [] args [.list .int] = true := (pre_splitW hpre).1
  have hc : l.pre.holds [] { args := args } = true := (pre_splitW hpre).2
  obtain ⟨d, r, rfl, h1, h2⟩ := hasAllW_cons hsh
  obtain rfl := hasAllW_nil h2
  obtain ⟨xs, rfl, h3⟩ := hasW_list h1
  obtain ⟨ns, rfl⟩ := items_int h3
  have hlen : ns.length ≤ n := by
    unfold OpenLaw.pre at hc
    have h4 : (WTm.not (.lt (.lit (.int (n : Int))) (.len (.arg 0)))).holds [] { args := [.list (ns.map .int)] } = true := by
      have h4 := (holds_andW hc).1
      rw [hn] at h4
      exact h4
    have h5 := condW_of h4 (w_not (w_lt w_lit (w_len_list (w_arg rfl))))
    rw [List.length_map] at h5
    refine Nat.le_of_not_lt fun q => ?_
    have q' : (n : Int) < ((ns.length : Nat) : Int) := by omega
    first
      | (rw [decide_eq_true q'] at h5; exact absurd h5 (by decide))
      | (simp at h5; omega)
  cases hwl with
  | cons w1 w2 =>
    cases w2
    cases w1 with
    | list ho hall => exact ⟨_, _, ns, rfl, rfl, ho, ints_of_wellAll ns _ hall, hlen⟩
theorem post_true (l : OpenLaw) (args : List WData) : l.row.toRowW.claim.post args (.bool true) args = true :=
  postW_of (r := l.row.toRowW) (X := (true == true))
    (show WShape.has [] (.bool true) .bool = true by first | rfl | decide | simp [WShape.has, WShape.arms, WShape.armsAll])
    (show (WTm.eq .res (.lit (.bool true))).value [] { args := args, res := some (.bool true), after := args } = some (.bool (true == true)) from w_eq_bool (w_res rfl) w_lit) rfl
theorem attach_call {l : OpenLaw} {n : Nat} {q : Program} {loose : List Str} {XP : (Str → Option Value) → Heap → Prop} {YP : World → Heap → Prop} {d : DefRec}
    (hn : l.most = some n) (hdf : d.params.defaults = [])
    (call : ∀ (w : World) (s₀ s₁ : Shared) (mg mb : Str → Option Value) (fa : Addr) (o : Obj) (pm cd doc : Value) (a : Addr) (vs : List Value) (ns : List Int),
      Ground q loose [] XP w s₀ mg mb s₁.heap → YP w s₁.heap →
      s₁.heap.get? fa = some o → o.data = .func (docDef d.name d.params d.body d.scope pm cd doc) → s₁.heap.CodeRec cd d.name → mg d.name = some (.ref fa) →
      s₁.heap.get? a = some { cls := .type "list", data := .seq vs.toArray } → IntsAre vs ns → ns.length ≤ n → s₁.gens = #[] →
      codeAny (model l.prog w) callerA (.call (.ref fa) ⟨[.ref a], []⟩) (fun r s' => r = .ok (.ret (.bool true)) ∧ OldK s₁.heap s'.heap ∧ s'.os = s₁.os ∧ AllBare s'.gens) s₁) :
    WalkO q loose XP YP l.row.toRowW d [] (fun f vs => PySem.call f vs) := by
  intro w s₀ s₁ mg mb G Y fa o pm cd doc dV kV ho hd hcd hD hmg hg args vals as hpre hlay hrd hwl hlo
  obtain rfl : dV = .none := Dflts.none hD hdf
  obtain rfl : kV = .none := Dflts.noKw hD
  obtain ⟨a, vs, ns, rfl, rfl, hobj, hints, hlen⟩ := script_of hn hpre hwl
  refine enter_call (codeAny_mono (call w s₀ s₁ mg mb fa o pm cd doc a vs ns G Y ho (fd_plain hd) hcd hmg hobj hints hlen hg) fun r s' hq => ?_)
  obtain ⟨rfl, h2, h3, h4⟩ := hq
  exact ⟨.inl ⟨.bool true, .bool true, [], rfl, fun _ => rfl, .bool true, post_true l _, fun _ => ⟨List.Pairwise.nil, fun _ hm => (nomatch hm)⟩⟩, h2, h3, h4⟩
section
variable {prog : Program} {w : World} {A : Around} {E : Value → Shared → Prop} {s : Shared} {K : Frag}
def ledger (h : Heap) (L d : Addr) : List (Addr × Obj) := (List.range h.objs.size).filterMap fun a => if a = L ∨ a = d then none else (h.get? a).map fun o => (a, o)
end
end Att
namespace L2
open PySem PySem.Spec PyProof.Rows
theorem vals_ints : ∀ {vs : List Value} {ns : List Int}, IntsAre vs ns → Vals (ns.map V.int) vs
  | _, _, .nil => .nil
  | _, _, .cons n t h => .cons ⟨t, rfl⟩ (vals_ints h)
def Only (H : Hp) : Prop := ∀ b, H b = none ∨ ∃ o xs, H b = some (.frz o (.lst xs))
theorem law_call {P : Program} {w : World} {K : PySem.W.Frag} {mg mb : Str → Option Value} {CX : CXT} {k : Nat} {fa a : Addr} {fd : FuncData} {x : Str} {sp : Sp} {s₁ : Shared} {vs : List Value} {ns : List Int}
    (KX : K.In s₁.heap) (hns : s₁.heap.Ns mainGlobals mg) (hb : s₁.heap.Ns builtinsNs mb) (hbb : ∀ x : Str, x ≠ "__name__" → mb x = bootBuiltins x) (hlim : s₁.heap.NoLimit) (hg : s₁.gens = #[])
    (ha : s₁.heap.get? a = some { cls := .type "list", data := .seq vs.toArray }) (hi : IntsAre vs ns) (hl : ns.length ≤ sizeLine) (hr : Room k callerA)
    (F : ∀ base : Heap, K.In base → base.Ns mainGlobals mg → FnOk P w K mg base CX k fa fd [x] sp) (hbind : ∀ (s : Shared) (u : Value), BindsTo s fd ⟨[u], []⟩ [(x, u)])
    (hsp : ∀ H : Hp, Only H → SqL K H a (ns.map V.int) → sp [.ref a] H (fun v _ => v = .bl true) fun _ _ _ => False)
    (hCX : ∀ H e s', CX [] H s₁ (fun _ _ _ => False) e s' → False) :
    codeAny (model P w) callerA (.call (.ref fa) ⟨[.ref a], []⟩) (fun r s' => r = .ok (.ret (.bool true)) ∧ OldK s₁.heap s'.heap ∧ s'.os = s₁.os ∧ AllBare s'.gens) s₁ := by
  have rv := vals_ints hi
  have lenV := hi.length
  -- from an abstract heap in which nothing but the script may be tracked
  have core : ∀ H : Hp, Only H → SqL K H a (ns.map V.int) → HOk P w H s₁.heap → (∀ b, H b ≠ none → b = a) → (H a ≠ none → K.lookup a = none) →
      codeAny (model P w) callerA (.call (.ref fa) ⟨[.ref a], []⟩) (fun r s' => r = .ok (.ret (.bool true)) ∧ OldK s₁.heap s'.heap ∧ s'.os = s₁.os ∧ AllBare s'.gens) s₁ := by
    intro H hO hS hok hA hK
    have base_of : ∀ {b : Addr} {o : Obj}, s₁.heap.get? b = some o → H b = none → (hidT s₁.heap H).get? b = some o := fun e n => hidT_get e n
    have noA : ∀ {b : Addr} {o : Obj} {es : Array DictEntry} {ep : Nat}, s₁.heap.get? b = some o → o.data = .dict es ep → H b = none := fun {b o es ep} e d => by
      cases q : H b with
      | none => rfl
      | some u =>
        have e' : b = a := hA b (by rw [q]; simp)
        subst e'
        rw [ha] at e; cases e
        have d' : Data.seq vs.toArray _ = Data.dict es ep := d
        cases d'
    have nsK : ∀ {b : Addr} {m : Str → Option Value}, s₁.heap.Ns b m → (hidT s₁.heap H).Ns b m := fun {b m} ⟨o, es, ep, e, d, r⟩ => ⟨o, es, ep, base_of e (noA e d), d, r⟩
    have hKb : K.In (hidT s₁.heap H) := fun b o e => base_of (KX b o e) (by
      cases q : H b with
      | none => rfl
      | some u =>
        have e' : b = a := hA b (by rw [q]; simp)
        subst e'
        rw [hK (by rw [q]; simp)] at e; cases e)
    have hM : Mod K mg (hidT s₁.heap H) := ⟨hKb, nsK hns, ⟨mb, nsK hb, hbb⟩, let ⟨mc, h1, h2⟩ := hlim; ⟨mc, nsK h1, h2⟩⟩
    have e0 : Env0 P w K mg (hidT s₁.heap H) callerA [] s₁ H := ⟨rfl, hM, fun b o e => of_hidT e, Nat.le_of_eq (hidT_size _ _), trivial, fun b hb => absurd (show b ∈ ([] : List Addr) from hb) (by simp), hok, .of_eq hg⟩
    refine codeAny_mono ((F _ hKb (nsK hns)).run callerA [] s₁ H ⟨[.ref a], []⟩ [.ref a] [.ref a] _ _ hr e0 (hbind s₁ (.ref a)) (.cons rfl .nil) (hsp H hO hS)) fun r s' h => ?_
    cases r with
    | error e => exact (hCX H e s' h).elim
    | ok fl =>
      cases fl with
      | next => exact False.elim h
      | brk => exact False.elim h
      | cont => exact False.elim h
      | ret u =>
        obtain ⟨v, H', os, bare, un, hok', r', q⟩ := h
        have q' : v = .bl true := q
        subst q'
        obtain rfl : u = Value.bool true := r'
        refine ⟨rfl, OldK.of_keep fun b o e => ?_, os, bare⟩
        cases q : H b with
        | none => exact un.keep b o e q (by intro z; exact absurd (show b ∈ ([] : List Addr) from z) (by simp)) (by simp)
        | some u =>
          rcases hO b with z | ⟨ob, xs, z⟩
          · rw [q] at z; cases z
          · have z2 := un.frzs b ob _ z
            obtain ⟨e1, _⟩ := hok b _ z
            obtain ⟨e2, _⟩ := hok' b _ z2
            rw [e] at e1; cases e1
            exact e2
  cases hk : K.lookup a with
  | some o =>
    -- the script is one of the module's own objects
    have e := KX a o hk
    rw [ha] at e
    cases e
    refine core (fun _ => none) (fun _ => .inl rfl) (.inr ⟨_, vs.toArray, _, hk, rfl, rfl, rfl, by rw [List.size_toArray, lenV]; exact hl, by simpa using rv⟩) (fun b u z => by have z' : (none : Option HO) = some u := z; cases z') (fun b z => absurd rfl z) fun z => absurd rfl z
  | none =>
    refine core (fun b => if b = a then some (.frz { cls := .type "list", data := .seq vs.toArray } (.lst (ns.map V.int))) else none) (fun b => ?_) (.inl (.inr ⟨{ cls := .type "list", data := .seq vs.toArray }, if_pos rfl⟩)) (fun b u z => ?_) (fun b z => ?_) fun _ => hk
    · by_cases hb : b = a
      · exact .inr ⟨_, _, if_pos hb⟩
      · exact .inl (if_neg hb)
    · by_cases hb : b = a
      · have z' := (if_pos hb).symm.trans z
        cases z'
        subst hb
        exact ⟨ha, by rw [List.length_map]; exact hl, vs, _, rv, ha⟩
      · have z' := (if_neg hb).symm.trans z
        cases z'
    · by_cases hb : b = a
      · exact hb
      · exact absurd (if_neg hb) z
end L2
namespace L2
open PySem PySem.Spec PyProof.Rows
abbrev KOf {K : PySem.W.Frag} {h : Heap} (_ : K.In h) : PySem.W.Frag := K
theorem walk_of {l : PySem.W.OpenLaw} {n k : Nat} {q : Program} {loose : List Str} {XP : (Str → Option Value) → Heap → Prop} {YP : World → Heap → Prop} {d : DefRec} {K : Params → PySem.W.Frag} {CX : World → CXT} {sp : World → Sp} {x : Str}
    (hn : l.most = some n) (hn2 : n ≤ sizeLine) (hdf : d.params.defaults = []) (hr : Room k callerA)
    (hY : ∀ (w : World) (h : Heap), YP w h → (K w.params).In h)
    (F : ∀ (w : World) (mg : Str → Option Value) (fa : Addr) (h : Heap), (K w.params).In h → h.Ns mainGlobals mg → mg d.name = some (.ref fa) →
      ∃ fd : FuncData, (∀ (s : Shared) (u : Value), BindsTo s fd ⟨[u], []⟩ [(x, u)]) ∧
        ∀ base : Heap, (K w.params).In base → base.Ns mainGlobals mg → FnOk l.prog w (K w.params) mg base (CX w) k fa fd [x] (sp w))
    (hsp : ∀ (w : World) (H : Hp) (a : Addr) (ns : List Int), ns.length ≤ n → Only H → SqL (K w.params) H a (ns.map V.int) → sp w [.ref a] H (fun v _ => v = .bl true) fun _ _ _ => False)
    (hCX : ∀ (w : World) (H : Hp) (s : Shared) (e : Value) (s' : Shared), CX w [] H s (fun _ _ _ => False) e s' → False) :
    PySem.W.WalkO q loose XP YP l.row.toRowW d [] (fun f vs => PySem.call f vs) := by
  refine Att.attach_call hn hdf fun w s₀ s₁ mg mb fa o pm cd doc a vs ns G Y ho hd hcd hmg hobj hints hlen hg => ?_
  have KX := hY w _ Y
  obtain ⟨fd, hb, hF⟩ := F w mg fa _ KX G.T.g hmg
  exact law_call KX G.T.g G.T.b G.T.builtins G.T.nolimit hg hobj hints (Nat.le_trans hlen hn2) hr hF hb (fun H hO hS => hsp w H a ns hlen hO hS) fun H e s' => hCX w H s₁ e s'
theorem walk_ofK {l : PySem.W.OpenLaw} {n k : Nat} {q : Program} {loose : List Str} {XP : (Str → Option Value) → Heap → Prop} {YP : World → Heap → Prop} {d : DefRec} {K : Params → PySem.W.Frag} {CX : CXT} {sp : PySem.W.Frag → Sp} {x : Str}
    (hn : l.most = some n) (hn2 : n ≤ sizeLine) (hdf : d.params.defaults = []) (hr : Room k callerA)
    (hY : ∀ (w : World) (h : Heap), YP w h → (K w.params).In h)
    (F : ∀ (w : World) (mg : Str → Option Value) (fa : Addr) (h : Heap), (K w.params).In h → h.Ns mainGlobals mg → mg d.name = some (.ref fa) →
      ∃ fd : FuncData, (∀ (s : Shared) (u : Value), BindsTo s fd ⟨[u], []⟩ [(x, u)]) ∧
        ∀ base : Heap, (K w.params).In base → base.Ns mainGlobals mg → FnOk l.prog w (K w.params) mg base CX k fa fd [x] (sp (K w.params)))
    (hsp : ∀ (K : PySem.W.Frag) (H : Hp) (a : Addr) (ns : List Int), ns.length ≤ n → Only H → SqL K H a (ns.map V.int) → sp K [.ref a] H (fun v _ => v = .bl true) fun _ _ _ => False)
    (hCX : ∀ (H : Hp) (s : Shared) (e : Value) (s' : Shared), CX [] H s (fun _ _ _ => False) e s' → False) :
    PySem.W.WalkO q loose XP YP l.row.toRowW d [] (fun f vs => PySem.call f vs) :=
  walk_of (K := K) (CX := fun _ => CX) (sp := fun w => sp (K w.params)) hn hn2 hdf hr hY F (fun w H a ns h1 h2 h3 => hsp (K w.params) H a ns h1 h2 h3) fun _ H s e s' => hCX H s e s'
end L2
/- THE LAST THEOREM (shape; LID, My.* are yours):
   My.Adr: a structure of the addresses that your layer names (classes, functions); My.Txt K t: a structure (Prop) of the equations over K;
   My.txt_mk : {K} {implicit addresses ..} (e1 : nsIn K mainGlobals "law" = some (some (.ref f))) (e2 : K.lookup f = some ⟨oc, od, .func (fnOf "law" "law" params body scope dV kV doc pm an cdv ct), sl⟩) (e3 : codeIn K cdv "law" = true) .. : ∃ t, My.Txt K t
set_option maxRecDepth 100000 in
set_option maxHeartbeats 0 in
theorem PySem.Challenge.cw_LID_holds : PySem.Challenge.rw_LID.Holds := by
  w_on; o_law; k_head; (case hw => w_witness2)
  k_fill
  refine L2.walk_of (l := PySem.Challenge.rw_LID) (n := 63) (k := 40) (x := "script") (CX := fun w => ..) (sp := fun _ => My.sp_law) rfl (by decide) rfl ⟨rfl, by decide, by decide⟩ (fun w h Y => PySem.W.kIn_of Y) ?F ?S ?C
  case F =>
    intro w mg fa h KX G hmg
    have T : ∃ t, My.Txt (L2.KOf KX) t := by
      dsimp only [L2.KOf]                          -- K must stand as «<heap const> w.params» for k_is
      refine' My.txt_mk ?e1 ?e2 ?e3 ..
      (case e1 => PySem.W.k_is)                    -- in the order: a name -> its address -> its object -> its parts
      (case e2 => PySem.W.k_is)
      ..
    obtain ⟨t, T⟩ := T
    have e0 := hmg.symm.trans (PySem.W.mg_of KX G T.law)
    cases e0                                       -- fa is the law's own address
    exact ⟨_, fun s u => .of_eq rfl, fun base kb nb => My.law_fn T kb nb⟩     -- if «.of_eq rfl» comes too early: refine' ⟨_, ?b, fun base kb nb => My.law_fn T kb nb⟩; exact fun s u => .of_eq rfl
  case S => exact fun w H a ns hl hO hS => ..
  case C => exact ..
(the tactic k_is has no namespace: write k_is) -/
namespace L2
open PySem PySem.Spec PyProof.Rows
def inClass (s : Stmt) (j : Nat) : Stmt := match s with
  | .ClassDef _ _ _ body _ _ _ _ _ _ _ => body.getD j (.Pass ⟨0, 0, 0, 0⟩)
  | _ => .Pass ⟨0, 0, 0, 0⟩
def defArgs (s : Stmt) : Arguments := match s with
  | .FunctionDef _ a _ _ _ _ _ _ _ _ => a
  | _ => { posonlyargs := [], args := [], vararg := none, kwonlyargs := [], kw_defaults := [], kwarg := none, defaults := [] }
def defBody (s : Stmt) : List Stmt := match s with
  | .FunctionDef _ _ b _ _ _ _ _ _ _ => b
  | _ => []
def defScope (s : Stmt) : Scope := match s with
  | .FunctionDef _ _ _ _ _ _ sc _ _ _ => sc
  | _ => { kind := .function, names := [], isGenerator := false, isCoroutine := false }
abbrev CX0 : CXT := fun _ _ _ _ _ _ => False
abbrev E0 : XK := fun _ _ _ => False
theorem pass0 {X : Cx} : Passes CX0 X E0 := fun _ _ _ _ _ _ _ h => h.elim
structure Fun (K : PySem.W.Frag) (x qual : Str) (st : Stmt) (f : Addr) (fd : FuncData) : Prop where
  ex : ∃ (oc : Value) (od : Option Addr) (kV doc pm : Value) (an : Option Addr) (cdv ct : Value) (osl : Array (Option Value)),
    fd = PySem.W.fnOf x qual (defArgs st) (defBody st) (defScope st) .none kV doc pm an cdv ct ∧ K.lookup f = some ⟨oc, od, .func fd, osl⟩ ∧ PySem.W.codeIn K cdv qual = true
  kp : PySem.W.keepIn K (.ref f) = true
section
variable {P : Program} {w : World} {K : PySem.W.Frag} {mg : Str → Option Value} {base : Heap}
theorem Fun.ok {x qual : Str} {st : Stmt} {f : Addr} {fd : FuncData} {N ps : List Str} {k : Nat} {sp : Sp} (F : Fun K x qual st f fd) (S : FnScope N ps (defScope st)) (len : ∀ vs H Q E, sp vs H Q E → vs.length = ps.length)
    (hbody : ∀ (cdv : Value) (A : Around) (outer : List Env) (s : Shared) (H : Hp) (vs : List V) (Q : VK) (E : XK), Room k (A.deeper (envOfC qual (defScope st) s.heap.objs.size f cdv)) → sp vs H Q E →
      ∃ t, PSs (cxOf CX0 P w K mg base N qual (defScope st) f cdv A outer s H E).nox (defBody st) t ∧ t { nx := fun _ H' => Q .non H', rt := Q } (start N vs) H) : FnOk P w K mg base CX0 (k + 1) f fd ps sp := by
  obtain ⟨oc, od, kV, doc, pm, an, cdv, ct, osl, rfl, lk, hcd⟩ := F.ex
  refine fn_of lk hcd S len fun A outer s H vs Q E hr hsp => ?_
  obtain ⟨t, h, q⟩ := hbody cdv A outer s H vs Q E hr hsp
  exact ⟨t, h.nox, q⟩
theorem Fun.binds {x qual : Str} {st : Stmt} {f : Addr} {fd : FuncData} {ps : List Str} (F : Fun K x qual st f fd)
    (h : ∀ (kV doc pm : Value) (an : Option Addr) (cdv ct : Value) (us : List Value), us.length = ps.length → bindArgs (PySem.W.fnOf x qual (defArgs st) (defBody st) (defScope st) .none kV doc pm an cdv ct) ⟨us, []⟩ = pure (ps.zip us)) : Binds K fd ps [] := by
  obtain ⟨oc, od, kV, doc, pm, an, cdv, ct, osl, rfl, lk, hcd⟩ := F.ex
  exact .all (h kV doc pm an cdv ct)
theorem fun_mk {x qual : Str} {st : Stmt} {f : Addr} {oc : Value} {od an : Option Addr} {osl : Array (Option Value)} {kV doc pm cdv ct : Value} (l : K.lookup f = some ⟨oc, od, .func (PySem.W.fnOf x qual (defArgs st) (defBody st) (defScope st) .none kV doc pm an cdv ct), osl⟩)
    (c : PySem.W.codeIn K cdv qual = true) (k : PySem.W.keepIn K (.ref f) = true) : Fun K x qual st f (PySem.W.fnOf x qual (defArgs st) (defBody st) (defScope st) .none kV doc pm an cdv ct) := ⟨⟨oc, od, kV, doc, pm, an, cdv, ct, osl, rfl, l, c⟩, k⟩
end
theorem hu_of {A : Around} {k : Nat} (hr : Room k A) : A.units + 1 < cLine := Nat.lt_of_le_of_lt (Nat.add_le_add_left (by decide : 1 ≤ 64) _) hr.units
section
variable {X : Cx}
theorem pv (i : Nat) {x : Str} {pos : Pos} (hN : X.N[i]? = some x := by rfl) (hv : Vis X.env.scope x := by first | exact Or.inl rfl | exact Or.inr (Or.inl rfl) | exact Or.inr (Or.inr rfl)) (hd : (x == ("__debug__" : Str)) = false := by decide)
    (hcd : (x == ("__classdict__" : Str)) = false := by decide) : PE X (.Name x pos) (tVar i) := pe_var hN hv hd hcd
end
theorem iteF {A B : Prop} (h : B) : if false = true then A else B := by
  rw [if_neg Bool.false_ne_true]
  exact h
theorem iteT {A B : Prop} (h : A) : if true = true then A else B := by
  rw [if_pos rfl]
  exact h
theorem ite2 {c A B : Prop} [Decidable c] (h1 : c → A) (h2 : ¬ c → B) : if c then A else B := by
  by_cases h : c
  · rw [if_pos h]
    exact h1 h
  · rw [if_neg h]
    exact h2 h
def Same (H H' : Hp) : Prop := ∀ b o, H b = some o → H' b = some o
theorem Same.refl (H : Hp) : Same H H := fun _ _ h => h
theorem Same.trans {H H1 H2 : Hp} (a : Same H H1) (b : Same H1 H2) : Same H H2 := fun c o h => b c o (a c o h)
theorem Same.free {H H' : Hp} (e : Same H H') {l : Addr} (h : H' l = Option.none) : H l = Option.none := by
  cases q : H l with
  | none => rfl
  | some o =>
    rw [e l o q] at h
    cases h
theorem Same.seq {K : PySem.W.Frag} {H H' : Hp} {a : Addr} {xs : List V} (e : Same H H') (h : SqL K H a xs) : SqL K H' a xs := by
  rcases h with (h | ⟨o, h⟩) | h
  · exact .inl (.inl (e _ _ h))
  · exact .inl (.inr ⟨o, e _ _ h⟩)
  · exact .inr h
end L2
namespace L2
open PySem PySem.Spec PyProof.Rows
theorem closure_go (env : Env) : ∀ (names : List (Str × NameKind)) (cs : List (Str × Addr)), (∀ x ∈ names, x.2 = .free → ∃ c, env.cells.lookup x.1 = some c) → (∀ x c, cs.lookup x = some c → env.cells.lookup x = some c) →
    ∃ cl, (forIn names cs fun (p : Str × NameKind) (r : List (Str × Addr)) => (if (p.2 == NameKind.free) = true then do let c ← cellOf env p.1; pure (ForInStep.yield ((p.1, c) :: r)) else pure (ForInStep.yield r) : Sem (ForInStep (List (Str × Addr))))) = (pure cl : Sem (List (Str × Addr))) ∧
      (∀ x c, cl.lookup x = some c → env.cells.lookup x = some c) ∧ (∀ x, (∃ c, cs.lookup x = some c) → ∃ c, cl.lookup x = some c) ∧ ∀ x ∈ names, x.2 = .free → ∃ c, cl.lookup x.1 = some c
  | [], cs, _, h => ⟨cs, rfl, h, fun _ z => z, fun _ z => nomatch z⟩
  | (n, k) :: r, cs, hn, h => by
    by_cases e : k = .free
    · subst e
      obtain ⟨c, hc⟩ := hn (n, .free) List.mem_cons_self rfl
      have h' : ∀ x c', ((n, c) :: cs).lookup x = some c' → env.cells.lookup x = some c' := fun x c' q => by
        rw [List.lookup_cons] at q
        cases ex : x == n with
        | true =>
          rw [ex] at q
          have : x = n := by simpa using ex
          subst this
          cases q
          exact hc
        | false => rw [ex] at q; exact h x c' q
      obtain ⟨cl, e1, e2, e3, e4⟩ := closure_go env r ((n, c) :: cs) (fun x hx => hn x (List.mem_cons_of_mem _ hx)) h'
      refine ⟨cl, ?_, e2, fun x ⟨c', q⟩ => e3 x ?_, fun x hx hf => ?_⟩
      · rw [List.forIn_cons]
        rw [if_pos (show (((n, NameKind.free) : Str × NameKind).2 == NameKind.free) = true from by rfl)]
        unfold cellOf
        rw [hc]
        exact e1
      · rw [List.lookup_cons]
        cases ex : x == n with
        | true => exact ⟨c, rfl⟩
        | false => exact ⟨c', q⟩
      · rcases List.mem_cons.mp hx with z | z
        · subst z
          exact e3 n ⟨c, by rw [List.lookup_cons]; simp⟩
        · exact e4 x z hf
    · obtain ⟨cl, e1, e2, e3, e4⟩ := closure_go env r cs (fun x hx => hn x (List.mem_cons_of_mem _ hx)) h
      refine ⟨cl, ?_, e2, e3, fun x hx hf => ?_⟩
      · rw [List.forIn_cons]
        rw [if_neg (show ¬ (((n, k) : Str × NameKind).2 == NameKind.free) = true by simpa using e)]
        exact e1
      · rcases List.mem_cons.mp hx with z | z
        · subst z
          exact absurd hf e
        · exact e4 x z hf
theorem closure_ex {env : Env} {sc : Scope} (hn : ∀ x ∈ sc.names, x.2 = .free → ∃ c, env.cells.lookup x.1 = some c) :
    ∃ cl, closureFor sc env = pure cl ∧ (∀ x c, cl.lookup x = some c → env.cells.lookup x = some c) ∧ ∀ x ∈ sc.names, x.2 = .free → ∃ c, cl.lookup x.1 = some c := by
  obtain ⟨cl, e1, e2, _, e4⟩ := closure_go env sc.names [] hn (fun x c z => by cases z)
  refine ⟨cl, ?_, e2, e4⟩
  unfold closureFor
  exact (congrArg (fun (m : Sem (List (Str × Addr))) => m >>= fun r => pure r) e1)
theorem lookup_mem' {κ : Type} : ∀ {l : List (Str × κ)} {x : Str} {k : κ}, l.lookup x = some k → (x, k) ∈ l
  | [], _, _, h => by cases h
  | (n, k') :: r, x, k, h => by
    rw [List.lookup_cons] at h
    cases e : x == n with
    | true =>
      rw [e] at h
      have : x = n := by simpa using e
      subst this
      cases h
      exact List.mem_cons_self
    | false =>
      rw [e] at h
      exact List.mem_cons_of_mem _ (lookup_mem' h)
def relK (env : Env) (x : Str) (k : NameKind) : NameKind := if (k == NameKind.free && env.scope.kind == .function && env.kindOf x == some .cell) = true then .cell else k
theorem lookup_rel {env : Env} : ∀ {names : List (Str × NameKind)} {x : Str},
    (names.map fun (p : Str × NameKind) => match p with | (n, k) => if (k == NameKind.free && env.scope.kind == .function && env.kindOf n == some .cell) = true then (n, NameKind.cell) else (n, k)).lookup x = (names.lookup x).map (relK env x)
  | [], x => rfl
  | (n, k) :: r, x => by
    rw [List.map_cons]
    by_cases e : x = n
    · subst e
      dsimp only
      by_cases c : (k == NameKind.free && env.scope.kind == .function && env.kindOf x == some .cell) = true
      · rw [if_pos c]
        have z : relK env x k = .cell := if_pos c
        simp [List.lookup_cons, z]
      · rw [if_neg c]
        have z : relK env x k = k := if_neg c
        simp [List.lookup_cons, z]
    · have e' : (x == n) = false := by simpa using e
      dsimp only
      rw [List.lookup_cons (a := x) (b := k), e']
      show _ = (r.lookup x).map (relK env x)
      rw [← lookup_rel]
      by_cases c : (k == NameKind.free && env.scope.kind == .function && env.kindOf n == some .cell) = true
      · rw [if_pos c, List.lookup_cons, e']
      · rw [if_neg c, List.lookup_cons, e']
theorem kindOf_rel {sc : Scope} {env : Env} {cl : List (Str × Addr)} {C : Addr} {x : Str} : (compEnvC sc cl C env).kindOf x = (sc.names.lookup x).map (relK env x) := lookup_rel
def ixOk (N : List Str) (sc0 sc : Scope) (N' : List Str) (ix : List (Option Nat)) : Bool :=
  sc.kind == .function && ix.length == N'.length &&
  sc.names.all (fun p => p.2 != .cell && (p.2 != .free || (sc0.names.lookup p.1 == some .cell || sc0.names.lookup p.1 == some .free)) && (p.2 != .local || sc.names.lookup p.1 == some .local)) &&
  (List.range N'.length).all fun j => match ix[j]?, N'[j]? with
    | some (some i), some x => N[i]? == some x && sc.names.lookup x == some .free
    | _, _ => true
theorem ixOk_spec {N : List Str} {sc0 sc : Scope} {N' : List Str} {ix : List (Option Nat)} (h : ixOk N sc0 sc N' ix = true) :
    sc.kind = .function ∧ ix.length = N'.length ∧ (∀ p ∈ sc.names, p.2 ≠ .cell) ∧ (∀ p ∈ sc.names, p.2 = .free → sc0.names.lookup p.1 = some .cell ∨ sc0.names.lookup p.1 = some .free) ∧
      (∀ p ∈ sc.names, p.2 = .local → sc.names.lookup p.1 = some .local) ∧ ∀ (j i : Nat) (x : Str), ix[j]? = some (some i) → N'[j]? = some x → N[i]? = some x ∧ sc.names.lookup x = some .free := by
  unfold ixOk at h
  simp only [Bool.and_eq_true, List.all_eq_true, beq_iff_eq, bne_iff_ne, Bool.or_eq_true, ne_eq] at h
  obtain ⟨⟨⟨h1, h2⟩, h3⟩, h4⟩ := h
  refine ⟨h1, h2, fun p hp => (h3 p hp).1.1, fun p hp hf => ?_, fun p hp hl => ?_, fun j i x e1 e2 => ?_⟩
  · rcases (h3 p hp).1.2 with z | z
    · exact absurd hf z
    · exact z
  · rcases (h3 p hp).2 with z | z
    · exact absurd hl z
    · exact z
  · have hj : j < N'.length := (List.getElem?_eq_some_iff.mp e2).1
    have := h4 j (List.mem_range.mpr hj)
    rw [e1, e2] at this
    simpa using this
def cxC (X : Cx) (sc : Scope) (N' : List Str) (C : Addr) (cl : List (Str × Addr)) (s : Shared) (H : Hp) (fp : List Addr) : Cx :=
  { X with N := N', s₀ := s, H₀ := H, env := compEnvC sc cl C X.env, outer := X.stack, stack := X.stack, ex := fp, fn := fun _ => false, pn := [], xe := fun _ _ => False }
def st0 (ix : List (Option Nat)) (σ : St) : St := ix.map fun o => match o with | some i => (σ[i]?).getD none | none => none
def ExtL : St → St → Prop
  | [], [] => True
  | none :: r, _ :: r' => ExtL r r'
  | some v :: r, w :: r' => w = some v ∧ ExtL r r'
  | _, _ => False
theorem ExtL.spec : ∀ {a b : St}, ExtL a b → a.length = b.length ∧ ∀ (i : Nat) v, a[i]? = some (some v) → b[i]? = some (some v)
  | [], [], _ => ⟨rfl, fun _ _ z => by simp at z⟩
  | [], _ :: _, h => h.elim
  | none :: r, [], h => h.elim
  | some v :: r, [], h => h.elim
  | none :: r, w :: r', h => by
    obtain ⟨e1, e2⟩ := ExtL.spec (a := r) (b := r') h
    refine ⟨by simp [e1], fun i v z => ?_⟩
    cases i with
    | zero => simp at z
    | succ i => simpa using e2 i v (by simpa using z)
  | some u :: r, w :: r', h => by
    obtain ⟨e0, h⟩ := h
    obtain ⟨e1, e2⟩ := ExtL.spec (a := r) (b := r') h
    refine ⟨by simp [e1], fun i v z => ?_⟩
    cases i with
    | zero => simp at z; subst z; simp [e0]
    | succ i => simpa using e2 i v (by simpa using z)
def PF (X : Cx) (ifs : List Expr) (t : TT) : Prop :=
  ∀ (pins : List (Addr × Obj)) (s : Shared) (σ : St) (H : Hp) (Q : Bool → Hp → Prop), Inv X pins σ H s → t σ H Q →
    wpAny (model X.prog X.w) X.A (forIn ifs true fun c r => if r = true then do let ok ← isTrue c X.env (eval c X.env); pure (ForInStep.yield ok) else pure (ForInStep.yield r)) (TP X pins σ Q) X.xe s
def tAny : TT := fun _ H Q => Q true H
theorem pf_nil {X : Cx} : PF X [] tAny := fun pins s σ H Q I h => wpAny_tests_nil ⟨H, I, h⟩
theorem pf_one {X : Cx} {c : Expr} {t : TT} (h : PT X c t) : PF X [c] t := fun pins s σ H Q I q => wpAny_tests_one (h pins s σ H Q I q)
def LcGo (J : It) (g : TG) (tf : TT) (te : TE) (ix : List (Option Nat)) (σ : St) (H1 : Hp) (Q : VK) : Prop := ∃ W : Nat → Nat → List V → Hp → Prop, (∃ m, W 0 m [] H1) ∧ ∀ i m ys H, W i m ys H →
  (J.stop i H ∧ ys.length ≤ sizeLine ∧ ∀ D, H D = none → Q (.ref D) (upd H D (.lst ys))) ∨
  (J.go i H ∧ ys.length ≤ sizeLine ∧ ∀ x H', J.yld i H x H' → g x (st0 ix σ) H' fun σ2 H2 => ExtL (st0 ix σ) σ2 ∧ tf σ2 H2 fun b H3 => if b = true then te σ2 H3 fun y H4 => ∃ m', m' < m ∧ W (i + 1) m' (ys ++ [y]) H4 else ∃ m', m' < m ∧ W (i + 1) m' ys H3)
def tLC (wi : TI) (g : TG) (tf : TT) (te : TE) (ix : List (Option Nat)) : TE := fun σ H Q => wi σ H fun J H1 => LcGo J g tf te ix σ H1 Q
section
variable {X : Cx} {tg elt iter : Expr} {ifs : List Expr} {sc : Scope} {N' : List Str} {ix : List (Option Nat)} {pins : List (Addr × Obj)} {σ : St} {H2 : Hp} {s2 : Shared} {fp : List Addr} {cl : List (Str × Addr)} {C : Addr} {pos : Pos}
theorem cxC_ok (I : Inv X pins σ H2 s2) (hix : ixOk X.N X.env.scope sc N' ix = true) (e2 : ∀ x c, cl.lookup x = some c → X.env.cells.lookup x = some c) (e3 : ∀ x ∈ sc.names, x.2 = .free → ∃ c, cl.lookup x.1 = some c)
    (f2 : ∀ b ∈ fp, FpOk X pins H2 b) (fo : ∀ b ∈ fp, ∃ o, s2.heap.get? b = some o) (hC : s2.heap.objs.size ≤ C) : (cxC X sc N' C cl s2 H2 fp).Ok := by
  obtain ⟨k1, _, k3, _, _, _⟩ := ixOk_spec hix
  refine ⟨I.ok.mod, k1, I.ok.glob, I.ok.blt, hC, fun x y c a b => I.ok.inj x y c (e2 x c a) (e2 y c b), fun x hx => ?_, fun x c z => (by cases z), I.ok.hd, I.ok.frames, .inl rfl, fun b hb => ?_, I.bs, Nat.le_trans I.ok.bsz I.sz, fun b o e hb => ?_, fun b hb hf => ?_, I.stack, I.stkFree⟩
  · have hx' : (compEnvC sc cl C X.env).kindOf x = some .cell ∨ (compEnvC sc cl C X.env).kindOf x = some .free := hx
    rw [kindOf_rel] at hx'
    cases q : sc.names.lookup x with
    | none => rw [q] at hx'; rcases hx' with z | z <;> cases z
    | some k =>
      have hm := lookup_mem' q
      have hf : k = .free := by
        rw [q] at hx'
        have nk := k3 _ hm
        cases k with
        | free => rfl
        | cell => exact absurd rfl nk
        | _ => rcases hx' with z | z <;> (simp [relK] at z)
      exact e3 (x, k) hm hf
  · obtain ⟨o, ho⟩ := fo b hb
    exact ⟨Nat.ne_of_lt (Nat.lt_of_lt_of_le (Heap.lt_size ho) hC), fun x c q => (f2 b hb).2.2.2.2.1 x c (e2 x c q)⟩
  · have hb' : b ∈ fp := hb
    rcases (f2 b hb').2.2.2.1 with z | z
    · exact I.ok.noex b o e z
    · exact absurd (Nat.lt_of_lt_of_le (Heap.lt_size e) (Nat.le_trans I.ok.bsz z)) (Nat.lt_irrefl _)
  · have hb' : b ∈ fp := hb
    rcases List.mem_cons.mp (I.stkSub b hf) with z | z
    · exact (f2 b hb').2.1 z
    · exact (f2 b hb').2.2.1 z
end
section
variable {X : Cx} {tg elt iter : Expr} {ifs : List Expr} {sc sc0 : Scope} {N N' : List Str} {ix : List (Option Nat)} {pos : Pos} {wi : TI} {g : TG} {tf : TT} {te : TE}
structure LcEnd (X : Cx) (pins : List (Addr × Obj)) (σ : St) (H : Hp) (s : Shared) (C : Addr) : Prop where
  inv : Inv X pins σ H s
  ns : ∃ m, s.heap.Ns C m
  free : H C = none
  loc : C ≠ X.env.locals
  cel : ∀ x c, X.env.cells.lookup x = some c → c ≠ C
  abv : X.s₀.heap.objs.size ≤ C
  pin : ∀ p ∈ X.pn ++ pins, p.1 ≠ C
theorem LcEnd.gone {pins : List (Addr × Obj)} {σ : St} {H : Hp} {s : Shared} {C : Addr} {h' : Heap} (L : LcEnd X pins σ H s C) (sb : Heap.SameBut C s.heap h') : Inv X pins σ H { s with heap := h' } :=
  L.inv.turned (it := C) (t' := s.toks) (fun b o hb e => (sb.2 b hb).trans e) L.free L.loc (.inr L.abv) L.cel L.pin
set_option maxHeartbeats 2000000 in
theorem lc_core {pins : List (Addr × Obj)} {σ : St} {H : Hp} {s : Shared} {Q : VK} {use : Option (Value → Sem Unit)} {Qf : Value → Shared → Prop} {cpos : Pos} (hc : X.calm = true) (hix : ixOk X.N X.env.scope sc N' ix = true) (hi : PI X tg iter wi)
    (hg : ∀ C cl s H fp, PG (cxC X sc N' C cl s H fp) tg g) (hf : ∀ C cl s H fp, PF (cxC X sc N' C cl s H fp) ifs tf) (he : ∀ C cl s H fp, PE (cxC X sc N' C cl s H fp) elt te)
    (hs : ∀ x, foldedSetIterable iter X.env x = pure x) (I : Inv X pins σ H s) (h : tLC wi g tf te ix σ H Q)
    (hend : ∀ (C D : Addr) (H' : Hp) (s' : Shared), LcEnd X pins σ H' s' C → Q (.ref D) H' → compPost (model X.prog X.w) X.A X.xe use Qf (.ref D) C (.ok .next) s') :
    wpAny (model X.prog X.w) X.A (comprehension (.ListComp elt [⟨tg, iter, ifs, 0⟩] sc pos) sc X.env cpos (newList []) false (eval iter X.env) use) Qf X.xe s := by
  obtain ⟨hk, hlen, hcell, hfreeX, hnames, hat⟩ := ixOk_spec hix
  obtain ⟨cl, e1, e2, e3⟩ := closure_ex (env := X.env) (sc := sc) (fun x hx hf => I.ok.has x.1 (hfreeX x hx hf))
  refine wpAny_comprehension_free (use := use) (cl := cl) rfl hs e1 hk hnames (thn (hi pins s σ H _ I h) fun v s1 h1 => thn h1 fun itv s2 h2 => ?_)
  obtain ⟨it, fp, tn, J, H2, e, I2, T, st2, f2, W, ⟨m0, w0⟩, turn⟩ := h2
  subst e
  refine wpAny_newObj_type (wpAny_newFunctionEnv hcell (by intro y hy; simp at hy) (fun h₁ hns₁ hsb₁ => ?_) hk)
  dsimp only at hns₁ hsb₁ ⊢
  generalize hH2 : s2.heap.push { cls := .type "list", dict := none, data := .seq ([] : List Value).toArray } = G2 at hns₁ hsb₁ ⊢
  have hCs : G2.objs.size = s2.heap.objs.size + 1 := by rw [← hH2, Heap.size_push]
  have hDC : s2.heap.objs.size ≠ G2.objs.size := by rw [hCs]; exact Nat.ne_of_lt (Nat.lt_succ_self _)
  have hCle : s2.heap.objs.size ≤ G2.objs.size := by rw [hCs]; exact Nat.le_succ _
  have belowC : ∀ b, b < s2.heap.objs.size → b ≠ G2.objs.size := fun b hb => by rw [hCs]; exact Nat.ne_of_lt (Nat.lt_succ_of_lt hb)
  have belowD : ∀ b, b < s2.heap.objs.size → b ≠ s2.heap.objs.size := fun b hb => Nat.ne_of_lt hb
  have old : ∀ b o, s2.heap.get? b = some o → h₁.get? b = some o := fun b o e => hsb₁.extBut b o (belowC b (Heap.lt_size e)) (Heap.get?_push_of_some _ (hH2 ▸ Heap.get?_push_of_some _ e))
  have hacc : h₁.get? s2.heap.objs.size = some { cls := .type "list", data := .seq ([] : List Value).toArray } := hsb₁.extBut _ _ hDC (Heap.get?_push_of_some _ (hH2 ▸ Heap.get?_push_size _ rfl))
  have fo : ∀ b ∈ fp, ∃ o, s2.heap.get? b = some o := fun b hb => let ⟨o, ho, _⟩ := T.obj _ _ st2 b hb; ⟨o, ho⟩
  have fD : ∀ b ∈ fp, b ≠ s2.heap.objs.size := fun b hb => let ⟨o, ho⟩ := fo b hb; belowD b (Heap.lt_size ho)
  have ok' : (cxC X sc N' G2.objs.size cl s2 H2 fp).Ok := cxC_ok I2 hix e2 e3 f2 fo hCle
  have HD : H2 s2.heap.objs.size = none := I2.hok.fresh (Nat.le_refl _)
  have HC : H2 G2.objs.size = none := I2.hok.fresh hCle
  have I4 : Inv (cxC X sc N' G2.objs.size cl s2 H2 fp) [] (st0 ix σ) H2 { s2 with heap := h₁, toks := s2.toks + ([] : List (Str × Value)).length } := by
    refine ⟨ok', rfl, I2.bare, Un.kept old, ⟨_, hns₁, fun j x v a b c => ?_⟩, fun x c q => ?_, HC, fun x c q => I2.freeC x c (e2 x c q), fun p hp => (by cases hp), I2.hok.kept old, ?_⟩
    · -- a name of the block that stands for one around
      have a' : N'[j]? = some x := a
      have b' : (ix.map fun o => match o with | some i => (σ[i]?).getD none | none => none)[j]? = some (some v) := b
      rw [List.getElem?_map] at b'
      cases q : ix[j]? with
      | none => rw [q] at b'; cases b'
      | some o =>
        rw [q] at b'
        cases o with
        | none => cases b'
        | some i =>
          obtain ⟨n1, n2⟩ := hat j i x q a'
          have b'' : (σ[i]?).getD none = some v := Option.some.inj b'
          have sv : σ[i]? = some (some v) := by
            cases z : σ[i]? with
            | none => rw [z] at b''; cases b''
            | some y => rw [z] at b''; exact congrArg some b''
          obtain ⟨m, hn, hl⟩ := I2.loc
          have kx := hfreeX (x, .free) (lookup_mem' n2) rfl
          obtain ⟨u, r, lk⟩ := hl i x v n1 sv (.inr kx)
          refine ⟨u, r, .inr ⟨?_, ?_⟩⟩
          · show (compEnvC sc cl G2.objs.size X.env).kindOf x = some .cell ∨ (compEnvC sc cl G2.objs.size X.env).kindOf x = some .free
            rw [kindOf_rel, n2]
            show some (relK X.env x .free) = some .cell ∨ some (relK X.env x .free) = some .free
            unfold relK
            split
            · exact .inl rfl
            · exact .inr rfl
          · obtain ⟨c1, hc1⟩ := e3 (x, .free) (lookup_mem' n2) rfl
            refine ⟨c1, hc1, ?_⟩
            have hc2 := e2 x c1 hc1
            rcases lk with ⟨z, _⟩ | ⟨_, c, hcc, hcl⟩
            · have z' : X.env.scope.names.lookup x = some .local := z
              rcases kx with y | y <;> (rw [y] at z'; cases z')
            · rw [hc2] at hcc; cases hcc
              obtain ⟨o, ho, hd⟩ := hcl
              exact ⟨o, old c1 o ho, hd⟩
    · obtain ⟨v, o, ho, hd⟩ := I2.cell x c (e2 x c q)
      exact ⟨v, o, old c o ho, hd⟩
    · show (ix.map _).length = N'.length
      rw [List.length_map, hlen]
  have cellD : ∀ x c, cl.lookup x = some c → c ≠ s2.heap.objs.size := fun x c q z => by
    obtain ⟨v, o, ho, hd⟩ := I2.cell x c (e2 x c q)
    exact belowD c (Heap.lt_size ho) z
  have loop : ∀ s₃ : Shared, s₃ = { s2 with heap := h₁, toks := s2.toks + ([] : List (Str × Value)).length } →
      codeAny (model X.prog X.w) X.A (.compLoop (.ListComp elt [⟨tg, iter, ifs, 0⟩] sc pos) 0 (.ref it) (.ref s2.heap.objs.size) (compEnvC sc cl G2.objs.size X.env))
        (compPost (model X.prog X.w) X.A X.xe use Qf (.ref s2.heap.objs.size) G2.objs.size) s₃ := by
    rintro s₃ rfl
    refine codeAny_loop rfl (fun n s' => ∃ i ys H' its k, Inv (cxC X sc N' G2.objs.size cl s2 H2 fp) [] (st0 ix σ) H' s' ∧ tn i s'.heap ∧ (∀ b ∈ fp, H' b = none) ∧ H' s2.heap.objs.size = none ∧
      Vals ys its ∧ s'.heap.get? s2.heap.objs.size = some { cls := .type "list", data := .seq its.toArray k } ∧ W i n ys H') ?_ m0
      ⟨0, [], H2, [], _, I4, T.keep _ _ _ st2 (fun b _ o e => old b o e), fun b hb => (f2 b hb).1, HD, .nil, hacc, w0⟩
    rintro n s5 ⟨i, ys, H5, its, k, I5, st5, fr5, hD5, vv, oD, w5⟩
    show wpAny _ X.A ((compTurn (.ListComp elt [⟨tg, iter, ifs, 0⟩] sc pos) 0 (.ref it) (.ref s2.heap.objs.size) (compEnvC sc cl G2.objs.size X.env)).onRaise (fun x => do noteFrame x (compEnvC sc cl G2.objs.size X.env); theTreesLotGoes x)) _ _ s5
    refine wpAny_noted ?_
    rw [compTurn_list]
    have I5p : Inv (cxC X sc N' G2.objs.size cl s2 H2 fp) [(s2.heap.objs.size, { cls := .type "list", data := .seq its.toArray k })] (st0 ix σ) H5 s5 := I5.pins_of fun p hp => by
      have hp' : p = (s2.heap.objs.size, { cls := .type "list", data := .seq its.toArray k }) := by simpa using hp
      subst hp'
      refine ⟨oD, hD5, hDC, fun hb => ?_, fun v z => (by cases z)⟩
      obtain ⟨_, o, ho, _⟩ := I2.stack.mem (show s2.heap.objs.size ∈ frs X.stack from hb)
      exact Nat.lt_irrefl _ (Heap.lt_size ho)
    have fpk : ∀ {H' : Hp}, (∀ b ∈ fp, H' b = none) → ∀ b ∈ fp, FpOk (cxC X sc N' G2.objs.size cl s2 H2 fp) [(s2.heap.objs.size, ({ cls := .type "list", data := .seq its.toArray k } : Obj))] H' b := fun {H'} hn b hb => by
      refine ⟨hn b hb, (ok'.exf b hb).1, ok'.exfs b hb, .inl hb, (ok'.exf b hb).2, fun p hp => ?_⟩
      have hp' : p = (s2.heap.objs.size, ({ cls := .type "list", data := .seq its.toArray k } : Obj)) := by
        have z : p ∈ ([] : List (Addr × Obj)) ++ [(s2.heap.objs.size, ({ cls := .type "list", data := .seq its.toArray k } : Obj))] := hp
        simpa using z
      subst hp'
      exact (fD b hb).symm
    rcases turn i n ys H5 w5 with ⟨stop, hz, qn⟩ | ⟨go, hz, step⟩
    · refine wpAny_bind (wpAny_standAt (wpAny_bind (wpAny_mono (T.done (cxC X sc N' G2.objs.size cl s2 H2 fp) rfl rfl rfl hc i _ s5 (st0 ix σ) H5 (fun _ _ => False) I5p (fpk fr5) st5 stop) (fun r s6 ⟨hr, I6⟩ => ?_) fun _ _ f => f.elim)))
      subst hr
      refine wpAny_pure ?_
      obtain ⟨m, hn, _⟩ := I6.loc
      have oD6 : s6.heap.get? s2.heap.objs.size = some { cls := .type "list", data := .seq its.toArray k } := (I6.pin (s2.heap.objs.size, { cls := .type "list", data := .seq its.toArray k }) (by show _ ∈ ([] : List (Addr × Obj)) ++ _; simp)).1
      have u6 : Un (frs X.stack) fp H2 H5 s2.heap s6.heap := I6.base
      have HC5 : H5 G2.objs.size = none := I6.free
      refine hend _ _ (upd H5 s2.heap.objs.size (.lst ys)) s6 ⟨?_, ⟨m, hn⟩, by rw [upd_ne hDC.symm]; exact HC5, (belowC _ I2.lt).symm, fun x c q => ?_, Nat.le_trans I2.sz hCle, fun p hp => ?_⟩ (qn _ hD5)
      · refine I2.call' (s' := s6) (ch := fp) I6.os ?_ ?_ I6.bare fun b hb => ⟨(f2 b hb).2.2.2.1, (f2 b hb).2.1, (f2 b hb).2.2.2.2.1, (f2 b hb).2.2.2.2.2⟩
        · refine ⟨fun b o e n nf nx => u6.keep b o e n nf nx, fun b o e n nf nx => u6.slot b o e n nf nx, fun b o e n nx => ?_, fun b o e nx => u6.there b o e nx, fun b xs e => ?_, fun b o u e => ?_, fun b ps e => ?_⟩
          · rw [upd_ne (belowD b (Heap.lt_size e))]; exact u6.free b o e n nx
          · rw [upd_ne (ne_of_none e HD)]; exact u6.tups b xs e
          · rw [upd_ne (ne_of_none e HD)]; exact u6.frzs b o u e
          · rw [upd_ne (ne_of_none e HD)]; exact u6.tbls b ps e
        · intro b o e
          by_cases hb : b = s2.heap.objs.size
          · subst hb
            rw [upd_same] at e; cases e
            exact ⟨hz, its, k, vv, oD6⟩
          · rw [upd_ne hb] at e
            refine (I6.hok b o e).stay (fun c v hcc q => q) (fun c q => ?_) fun c xs q => ?_
            · rw [upd_ne (ne_of_none q hD5)]; exact q
            · rw [upd_ne (ne_of_none q hD5)]; exact q
      · obtain ⟨v, o, ho, hd⟩ := I2.cell x c q
        exact belowC c (Heap.lt_size ho)
      · exact belowC p.1 (Heap.lt_size (I2.pin p hp).1)
    · refine wpAny_bind (wpAny_standAt (wpAny_bind (wpAny_mono (T.item (cxC X sc N' G2.objs.size cl s2 H2 fp) rfl rfl rfl hc i _ s5 (st0 ix σ) H5 (fun _ _ => False) I5p (fpk fr5) st5 go) (fun r s6 ⟨u, hr, h6⟩ => ?_) fun _ _ f => f.elim)))
      subst hr
      refine wpAny_bind (wpAny_mono h6 (fun _ s7 ⟨x, H7, I7, r7, y7, st7, fr7⟩ => ?_) fun _ _ f => f.elim)
      have I7' := I7.pinned (fpk fr7) (T.obj _ _ st7)
      refine wpAny_bind (wpAny_mono (hg _ _ _ _ _ _ s7 (st0 ix σ) H7 x u _ I7' r7 (step x H7 y7)) (fun _ s8 ⟨σ8, H8, I8, x8, q8⟩ => ?_) fun _ _ f => f.elim)
      obtain ⟨xl, xv⟩ := x8.spec
      have keepT : ∀ {σ9 : St} {H9 : Hp} {s9 : Shared} {pl : List (Addr × Obj)}, (∀ p ∈ pinsAt fp s7.heap, p ∈ pl) → Inv (cxC X sc N' G2.objs.size cl s2 H2 fp) pl σ9 H9 s9 → tn (i + 1) s9.heap ∧ ∀ b ∈ fp, H9 b = none := fun {σ9 H9 s9 pl} hp I9 => by
        have pn : ∀ b o, b ∈ fp → s7.heap.get? b = some o → s9.heap.get? b = some o ∧ H9 b = none := fun b o hb e => by
          have := I9.pin (b, o) (List.mem_append_right _ (hp _ (mem_pinsAt hb e)))
          exact ⟨this.1, this.2.1⟩
        refine ⟨T.keep _ _ _ st7 fun b hb o e => (pn b o hb e).1, fun b hb => ?_⟩
        obtain ⟨o, e, _⟩ := T.obj _ _ st7 b hb
        exact (pn b o hb e).2
      refine wpAny_bind (wpAny_mono (hf _ _ _ _ _ _ s8 σ8 H8 _ I8 q8) (fun ok s9 ⟨H9, I9, q9⟩ => ?_) fun _ _ f => f.elim)
      have pD : ∀ {σ9 : St} {H9 : Hp} {s9 : Shared}, Inv (cxC X sc N' G2.objs.size cl s2 H2 fp) ([(s2.heap.objs.size, ({ cls := .type "list", data := .seq its.toArray k } : Obj))] ++ pinsAt fp s7.heap) σ9 H9 s9 →
          s9.heap.get? s2.heap.objs.size = some { cls := .type "list", data := .seq its.toArray k } ∧ H9 s2.heap.objs.size = none := fun {σ9 H9 s9} I9 => by
        have := I9.pin (s2.heap.objs.size, { cls := .type "list", data := .seq its.toArray k }) (List.mem_append_right _ (List.mem_append_left _ (by simp)))
        exact ⟨this.1, this.2.1⟩
      cases ok with
      | false =>
        obtain ⟨m', hm, w9⟩ := (show ∃ m', m' < n ∧ W (i + 1) m' ys H9 from by simpa using q9)
        obtain ⟨t9, fr9⟩ := keepT (fun p hp => List.mem_append_right _ hp) I9
        obtain ⟨oD9, hD9⟩ := pD I9
        refine wpAny_pure ⟨rfl, m', hm, i + 1, ys, H9, its, k, (I9.pins_of (pins' := []) fun p hp => nomatch hp).weak xl xv, t9, fr9, hD9, vv, oD9, w9⟩
      | true =>
        have q9' : te σ8 H9 fun y H4 => ∃ m', m' < n ∧ W (i + 1) m' (ys ++ [y]) H4 := by simpa using q9
        refine wpAny_bind (wpAny_bind (wpAny_mono (he _ _ _ _ _ _ s9 σ8 H9 _ I9 q9') (fun yv sA ⟨y, HA, IA, rA, m', hm, wA⟩ => ?_) fun _ _ f => f.elim))
        obtain ⟨oDA, hDA⟩ := pD IA
        have hsz : its.toArray.size ≤ sizeLine := by rw [List.size_toArray, ← vv.length]; exact hz
        refine wpAny_bind (wpAny_list_append_plain (hsz := hsz) ⟨_, oDA⟩ fun h9 pl9 sb9 => ?_)
        have IB : Inv (cxC X sc N' G2.objs.size cl s2 H2 fp) (pinsAt fp s7.heap) σ8 HA sA := IA.pins_of fun p hp => IA.pin p (List.mem_append_right _ (List.mem_append_right _ hp))
        have IC : Inv (cxC X sc N' G2.objs.size cl s2 H2 fp) (pinsAt fp s7.heap) σ8 HA { sA with heap := h9 } := IB.turned (it := s2.heap.objs.size) (t' := sA.toks) (fun b o hb e => (sb9.2 b hb).trans e) hDA hDC (.inr (Nat.le_refl _)) (fun x c q => cellD x c q) fun p hp => by
          have hp' : p ∈ pinsAt fp s7.heap := by
            have z : p ∈ ([] : List (Addr × Obj)) ++ pinsAt fp s7.heap := hp
            simpa using z
          exact fD p.1 (of_pinsAt hp').1
        obtain ⟨t9, fr9⟩ := keepT (fun p hp => hp) IC
        obtain ⟨k', oD'⟩ := pl9
        refine wpAny_pure (wpAny_pure ⟨rfl, m', hm, i + 1, ys ++ [y], HA, its ++ [yv], k', (IC.pins_of (pins' := []) fun p hp => nomatch hp).weak xl xv, t9, fr9, hDA, vv.append (.cons rA .nil), ?_, wA⟩)
        show h9.get? s2.heap.objs.size = _
        rw [oD']
        simp
  exact codeAny_compStart_list (loop _ rfl) (T.self X.A 0 _ _ _ (T.keep _ _ _ st2 (fun b _ o e => old b o e)) (loop _ rfl))
theorem pe_lc (hc : X.calm = true) (hix : ixOk N sc0 sc N' ix = true) (hi : PI X tg iter wi)
    (hg : ∀ C cl s H fp, PG (cxC X sc N' C cl s H fp) tg g) (hf : ∀ C cl s H fp, PF (cxC X sc N' C cl s H fp) ifs tf) (he : ∀ C cl s H fp, PE (cxC X sc N' C cl s H fp) elt te)
    (eN : X.N = N := by rfl) (eS : X.env.scope = sc0 := by rfl) (hs : ∀ x, foldedSetIterable iter X.env x = pure x := by intro _; rfl) :
    PE X (.ListComp elt [⟨tg, iter, ifs, 0⟩] sc pos) (tLC wi g tf te ix) := by
  intro pins s σ H Q I h
  subst eN eS
  rw [eval_ListComp]
  refine lc_core (use := none) hc hix hi hg hf he hs I h fun C D H' s' L q => ?_
  obtain ⟨m, hn⟩ := L.ns
  exact ⟨m, hn, fun h' sb => ⟨.ref D, H', L.gone sb, rfl, q⟩⟩
def tSetLC (i : Nat) (t : TE) : TS := fun D σ H => t σ H fun v H1 => D.nx (σ.set i (some v)) H1
theorem ps_setLC {i : Nat} {y : Str} {py spos : Pos} (hN : X.N.Nodup) (hiy : X.N[i]? = some y) (hy : X.env.scope.names.lookup y = some .local) (hc : X.calm = true) (hix : ixOk N sc0 sc N' ix = true) (hi : PI X tg iter wi)
    (hg : ∀ C cl s H fp, PG (cxC X sc N' C cl s H fp) tg g) (hf : ∀ C cl s H fp, PF (cxC X sc N' C cl s H fp) ifs tf) (he : ∀ C cl s H fp, PE (cxC X sc N' C cl s H fp) elt te)
    (eN : X.N = N := by rfl) (eS : X.env.scope = sc0 := by rfl) (hs : ∀ x, foldedSetIterable iter X.env x = pure x := by intro _; rfl)
    (hsw : swapsWith (.ListComp elt [⟨tg, iter, ifs, 0⟩] sc pos) (some (.Name y py)) spos.line X.env = pure true := by rfl) :
    PS X (.Assign [.Name y py] (.ListComp elt [⟨tg, iter, ifs, 0⟩] sc pos) spos) (tSetLC i (tLC wi g tf te ix)) := by
  intro pins s σ H Dn I h
  subst eN eS
  rw [exec_Assign_Name_used _ _ _ _ hsw]
  refine wpAny_bind (wpAny_standAt (wpAny_bind ?_))
  show wpAny _ X.A (do let _ ← comprehension (.ListComp elt [⟨tg, iter, ifs, 0⟩] sc pos) sc X.env _ (newList []) false (eval iter X.env) (some (assign (.Name y py) X.env))) _ _ s
  refine wpAny_bind (wpAny_mono (lc_core (use := some (assign (.Name y py) X.env)) (Qf := fun _ s' => SP X pins Dn .next s') hc hix hi hg hf he hs I h fun C D H' s' L q => ?_) (fun _ s' hq => wpAny_pure (wpAny_pure hq)) fun _ _ e => e)
  show wpAny _ X.A (assign (.Name y py) X.env (.ref D)) _ _ s'
  refine wpAny_assign_Name (store_ok2 L.inv hN hiy (.inl hy) (v := .ref D) rfl (fun s1 I1 hsb => ?_) (.inr hy))
  obtain ⟨a, sb, ha⟩ := hsb
  have haC : C ≠ a := by
    rcases ha with z | z
    · rw [z]; exact L.loc
    · exact (L.cel y a z).symm
  obtain ⟨m, hn⟩ := L.ns
  have L1 : LcEnd X pins (σ.set i (some (.ref D))) H' s1 C := ⟨I1, ⟨m, hn.sameBut sb haC⟩, L.free, L.loc, L.cel, L.abv, L.pin⟩
  exact ⟨m, hn.sameBut sb haC, fun h' sb' => ⟨_, H', L1.gone sb', q⟩⟩
end
end L2
namespace L2
open PySem
def Nx (Pv : Nat → List V → Hp → Prop) (n i : Nat) (ys : List V) (H : Hp) : Prop := ∃ m', m' < n - i ∧ (m' = n - (i + 1) ∧ i + 1 ≤ n ∧ Pv (i + 1) ys H)
theorem Nx.mk {Pv : Nat → List V → Hp → Prop} {n i : Nat} {ys : List V} {H : Hp} (h : i < n) (p : Pv (i + 1) ys H) : Nx Pv n i ys H := ⟨n - (i + 1), by omega, rfl, h, p⟩
theorem lc_list {K : PySem.W.Frag} {a : Addr} {xs : List V} {g : TG} {tf : TT} {te : TE} {ix : List (Option Nat)} {σ : St} {H : Hp} {Q : VK} (Pv : Nat → List V → Hp → Prop) (h0 : Pv 0 [] H)
    (hl : ∀ i ys H, i ≤ xs.length → Pv i ys H → SqL K H a xs ∧ ys.length ≤ sizeLine)
    (hs : ∀ i x ys H, xs[i]? = some x → Pv i ys H → g x (st0 ix σ) H fun σ2 H2 => ExtL (st0 ix σ) σ2 ∧ tf σ2 H2 fun b H3 => if b = true then te σ2 H3 fun y H4 => Nx Pv xs.length i (ys ++ [y]) H4 else Nx Pv xs.length i ys H3)
    (hd : ∀ ys H, Pv xs.length ys H → ∀ D, H D = none → Q (.ref D) (upd H D (.lst ys))) :
    LcGo (Itl K a) g tf te ix σ H Q := by
  refine ⟨fun i m ys H => m = xs.length - i ∧ i ≤ xs.length ∧ Pv i ys H, ⟨xs.length, by simp, Nat.zero_le _, h0⟩, ?_⟩
  rintro i m ys H ⟨rfl, hi, p⟩
  obtain ⟨q, hz⟩ := hl i ys H hi p
  by_cases hlt : i < xs.length
  · refine .inr ⟨⟨xs, xs[i], q, by simp [hlt]⟩, hz, fun x H' y => ?_⟩
    obtain ⟨e, y⟩ := y
    subst e
    exact hs i x ys _ (y xs q) p
  · have e : i = xs.length := by omega
    subst e
    exact .inl ⟨⟨xs, q, Nat.le_refl _⟩, hz, hd ys H p⟩
theorem lc_range {lo : Int} {n : Nat} {g : TG} {tf : TT} {te : TE} {ix : List (Option Nat)} {σ : St} {H : Hp} {Q : VK} (Pv : Nat → List V → Hp → Prop) (h0 : Pv 0 [] H)
    (hl : ∀ i ys H, i ≤ n → Pv i ys H → ys.length ≤ sizeLine)
    (hs : ∀ i ys H, i < n → Pv i ys H → g (.int (lo + i)) (st0 ix σ) H fun σ2 H2 => ExtL (st0 ix σ) σ2 ∧ tf σ2 H2 fun b H3 => if b = true then te σ2 H3 fun y H4 => Nx Pv n i (ys ++ [y]) H4 else Nx Pv n i ys H3)
    (hd : ∀ ys H, Pv n ys H → ∀ D, H D = none → Q (.ref D) (upd H D (.lst ys))) :
    LcGo (Itr lo n) g tf te ix σ H Q := by
  refine ⟨fun i m ys H => m = n - i ∧ i ≤ n ∧ Pv i ys H, ⟨n, by simp, Nat.zero_le _, h0⟩, ?_⟩
  rintro i m ys H ⟨rfl, hi, p⟩
  have hz := hl i ys H hi p
  by_cases hlt : i < n
  · refine .inr ⟨hlt, hz, fun x H' y => ?_⟩
    obtain ⟨e, y⟩ := y
    subst e y
    exact hs i ys _ hlt p
  · have e : i = n := by omega
    subst e
    exact .inl ⟨Nat.le_refl _, hz, hd ys H p⟩
theorem tAny_T {σ : St} {H : Hp} {A B : Hp → Prop} (h : A H) : tAny σ H fun b H3 => if b = true then A H3 else B H3 := by
  show if true = true then A H else B H
  rw [if_pos rfl]
  exact h
end L2
namespace L2
open PySem PySem.Spec PyProof.Rows
mutual
inductive Dt (K : PySem.W.Frag) (H : Hp) : V → PyData → Prop
  | non : Dt K H .non .none
  | bl (b : Bool) : Dt K H (.bl b) (.bool b)
  | int (i : Int) : Dt K H (.int i) (.int i)
  | str (x : Str) : Dt K H (.str x) (.str x)
  | lst {a : Addr} {xs : List V} {ds : List PyData} : SqL K H a xs → DtAll K H xs ds → Dt K H (.ref a) (.list ds)
  | tup {a : Addr} {xs : List V} {ds : List PyData} : SqT K H a xs → DtAll K H xs ds → Dt K H (.ref a) (.tuple ds)
inductive DtAll (K : PySem.W.Frag) (H : Hp) : List V → List PyData → Prop
  | nil : DtAll K H [] []
  | cons {v : V} {d : PyData} {vs : List V} {ds : List PyData} : Dt K H v d → DtAll K H vs ds → DtAll K H (v :: vs) (d :: ds)
end
section
variable {X : Cx} {pins : List (Addr × Obj)} {σ : St} {H : Hp} {s : Shared}
mutual
theorem Dt.reads (I : Inv X pins σ H s) : ∀ {v : V} {d : PyData} {u : Value}, Dt X.K H v d → RelV v u → ∃ as, Reads s.heap u d as
  | _, _, _, .non, r => by cases r; exact ⟨_, .none⟩
  | _, _, _, .bl b, r => by cases r; exact ⟨_, .bool b⟩
  | _, _, _, .int i, r => by obtain ⟨t, rfl⟩ := r; exact ⟨_, .int i t⟩
  | _, _, _, .str x, r => by obtain ⟨t, rfl⟩ := r; exact ⟨_, .str x t⟩
  | _, _, _, .lst hS hA, r => by
    cases r
    obtain ⟨its, rv, ⟨o, n, e, c, dd, hd⟩, hz⟩ := I.list hS
    obtain ⟨as, ha⟩ := DtAll.reads I hA rv
    first
      | exact ⟨_, .list e c hd (by simpa using ha)⟩
      | exact ⟨_, .list e c dd (by simpa using ha)⟩
  | _, _, _, .tup hS hA, r => by
    cases r
    obtain ⟨its, rv, ⟨o, e, c, n, hd⟩, hz⟩ := I.tuple hS
    obtain ⟨as, ha⟩ := DtAll.reads I hA rv
    exact ⟨_, .tuple e c hd (by simpa using ha)⟩
theorem DtAll.reads (I : Inv X pins σ H s) : ∀ {vs : List V} {ds : List PyData} {us : List Value}, DtAll X.K H vs ds → Vals vs us → ∃ as, ReadsAll s.heap us ds as
  | _, _, _, .nil, .nil => ⟨_, .nil⟩
  | _, _, _, .cons h t, .cons r rr => by
    obtain ⟨a1, h1⟩ := Dt.reads I h r
    obtain ⟨a2, h2⟩ := DtAll.reads I t rr
    exact ⟨_, .cons h1 h2⟩
end
end
section
variable {X : Cx}
def rNeD (K : PySem.W.Frag) : R2 := fun x y H Q => ∃ dx dy, Dt K H x dx ∧ Dt K H y dy ∧ dx.canLay0 = true ∧ dy.canLay0 = true ∧ min dx.depth dy.depth ≤ 60 ∧ Q (.bl (!PyData.eqv dx dy)) H
theorem op_neD {k : Nat} (hr : Room k X.A) : OpR X (compareOp .NotEq) (rNeD X.K) := by
  intro pins s σ H x y v u Q I rx ry h
  obtain ⟨dx, dy, h1, h2, c1, c2, dp, q⟩ := h
  obtain ⟨as, ra⟩ := h1.reads I rx
  obtain ⟨bs, rb⟩ := h2.reads I ry
  exact SeqAt.compareNe_reads ra rb c1 c2 (by have := hr.un; omega) ⟨.bl _, H, I, rfl, q⟩
end
end L2
namespace L2
open PySem PySem.Spec PyProof.Rows
theorem Inv.turnedS {X : Cx} {pins : List (Addr × Obj)} {σ : St} {H H' : Hp} {s : Shared} {h' : Heap} {t' : Nat} {ch : List Addr} (I : Inv X pins σ H s) (hf : ∀ b ∈ ch, FpOk X pins H b)
    (k : ∀ b o, b ∉ ch → s.heap.get? b = some o → h'.get? b = some o) (hH : ∀ b o, H b = some o → H' b = some o) (hN : ∀ b, b < s.heap.objs.size → H b = none → H' b = none)
    (new : ∀ b o, H b = none → H' b = some o → ObjOk X.prog X.w H' h' b o) : Inv X pins σ H' { s with heap := h', toks := t' } := by
  refine I.step (g' := s.gens) (d' := s.drawn) (ch := ch) (fun b hb => ?_) (fun b o _ _ hc e _ => k b o hc e) (fun b o _ _ hc e _ => ⟨o.slots, k b o hc e⟩) (fun b o _ e n => hN b (Heap.lt_size e) n)
    (fun b o hc e => ⟨o, k b o hc e⟩) (fun b xs e => hH b _ e) (fun b o u e => hH b _ e) (fun b ps e => ⟨#[], by rw [hH b _ e]; simp⟩) (fun m hm => ?_) (fun b u e => ?_) I.bare
  · obtain ⟨_, f1, _, f3, f4, f5⟩ := hf b hb
    exact ⟨f3, f1, f4, f5⟩
  · obtain ⟨o, es, ep, ho, r⟩ := hm
    exact ⟨o, es, ep, k _ o (fun z => (hf _ z).2.1 rfl) ho, r⟩
  · cases q : H b with
    | none => exact new b u q e
    | some v =>
      rw [hH b v q] at e
      cases e
      refine (I.hok b u q).stay (fun c v hc q' => k c v (fun z => ?_) q') (fun c q' => hH c _ q') fun c xs q' => hH c _ q'
      have n := (hf c z).1
      rcases hc with rfl | hc
      · rw [q] at n; cases n
      · rw [hc] at n; cases n
section
variable {X : Cx}
theorem boot_zip : bootBuiltins "zip" = some (.type "zip") := by decide +kernel
end
end L2
namespace L2
open PySem PySem.Spec PyProof.Rows
section
variable {X : Cx}
theorem pe_ty {x : Str} {n : String} {pos : Pos} (hg : Gl X x) (hm : X.mg x = none) (hv : bootBuiltins x = some (.type n)) (hn : x ≠ "__name__" := by decide) (hd : (x == ("__debug__" : Str)) = false := by decide) : PE X (.Name x pos) (tC (.ty n)) :=
  pe_bltn hg hm hv rfl hn hd
open PySem.Builtin.Str in
def parts (x y : Str) : List Str := partsBetween x (occurrences x y 0 x.length (x.length + 1)) y.length
theorem vals_strs : ∀ (l : List (Str × Tok)), Vals ((l.map (·.1)).map V.str) (strValues l)
  | [] => .nil
  | p :: r => .cons ⟨p.2, rfl⟩ (vals_strs r)
open PySem.Builtin.Str in
end
end L2
namespace TK
def gap (c : Nat) : Bool := c == 32 || c == 10
def single (c : Nat) : Bool := [40, 41, 123, 125, 91, 93, 44, 59, 43, 45, 38, 124, 94, 60, 61].contains c
def sgn : List Nat → Nat
  | [] => 0
  | [c] => if single c then 1 else 0
  | c :: d :: _ => if (c == 60 && d == 60) || (c == 62 && d == 62) then 2 else if single c then 1 else 0
def run : List Nat → Nat
  | [] => 0
  | c :: r => if gap c || sgn (c :: r) != 0 then 0 else 1 + run r
theorem sgn_one (c : Nat) : sgn [c] = if single c = true then 1 else 0 := rfl
theorem sgn_two (c d : Nat) (r : List Nat) : sgn (c :: d :: r) = if ((c == 60 && d == 60) || (c == 62 && d == 62)) = true then 2 else if single c = true then 1 else 0 := rfl
theorem run_cons (c : Nat) (r : List Nat) : run (c :: r) = if (gap c || sgn (c :: r) != 0) = true then 0 else 1 + run r := by rw [run]
theorem sgn_le (l : List Nat) : sgn l ≤ l.length := by
  match l with
  | [] => simp [sgn]
  | [c] => rw [sgn_one]; split <;> simp
  | c :: d :: r => rw [sgn_two]; split <;> (try split) <;> simp
theorem run_le : ∀ l : List Nat, run l ≤ l.length
  | [] => by simp [run]
  | c :: r => by
    have := run_le r
    rw [run_cons]
    split <;> simp <;> omega
def one (l : List Nat) : Nat := if sgn l = 0 then run l else sgn l
theorem one_pos {c : Nat} {r : List Nat} (h : gap c = false) : 0 < one (c :: r) := by
  unfold one
  by_cases e : sgn (c :: r) = 0
  · rw [if_pos e]
    rw [run_cons, h, e]
    simp
    omega
  · rw [if_neg e]; omega
theorem one_le (l : List Nat) : one l ≤ l.length := by
  unfold one
  split
  · exact run_le l
  · exact sgn_le l
def toksF : Nat → List Nat → List (List Nat)
  | 0, _ => []
  | _, [] => []
  | n + 1, c :: r => if gap c then toksF n r else (c :: r).take (one (c :: r)) :: toksF n ((c :: r).drop (one (c :: r)))
theorem toksF_mono : ∀ (n m : Nat) (l : List Nat), l.length ≤ n → l.length ≤ m → toksF n l = toksF m l
  | 0, 0, _, _, _ => rfl
  | 0, m + 1, l, h, _ => by
    have : l = [] := List.length_eq_zero_iff.mp (by omega)
    subst this; rfl
  | n + 1, 0, l, _, h => by
    have : l = [] := List.length_eq_zero_iff.mp (by omega)
    subst this; rfl
  | n + 1, m + 1, [], _, _ => rfl
  | n + 1, m + 1, c :: r, h1, h2 => by
    simp only [List.length_cons] at h1 h2
    unfold toksF
    by_cases g : gap c = true
    · rw [if_pos g, if_pos g]
      exact toksF_mono n m r (by omega) (by omega)
    · rw [if_neg g, if_neg g]
      have p := one_pos (r := r) (by simpa using g)
      rw [toksF_mono n m _ (by rw [List.length_drop, List.length_cons]; omega) (by rw [List.length_drop, List.length_cons]; omega)]
def toks (l : List Nat) : List (List Nat) := toksF l.length l
theorem toks_nil : toks [] = [] := rfl
theorem toks_gap {c : Nat} {r : List Nat} (h : gap c = true) : toks (c :: r) = toks r := by
  unfold toks
  rw [List.length_cons]
  show (if gap c then toksF r.length r else _) = _
  rw [if_pos h]
theorem toks_tok {c : Nat} {r : List Nat} (h : gap c = false) : toks (c :: r) = (c :: r).take (one (c :: r)) :: toks ((c :: r).drop (one (c :: r))) := by
  unfold toks
  rw [List.length_cons]
  show (if gap c then _ else (c :: r).take (one (c :: r)) :: toksF r.length ((c :: r).drop (one (c :: r)))) = _
  rw [if_neg (by rw [h]; decide)]
  have p := one_pos (r := r) h
  rw [toksF_mono r.length _ _ (by rw [List.length_drop, List.length_cons]; omega) (Nat.le_refl _)]
structure Tok (t : List Nat) : Prop where
  cut : ∀ s : List Nat, (s = [] ∨ ∃ c r, s = c :: r ∧ gap c = true) → one (t ++ s) = t.length
  ne : t ≠ []
  ng : ∀ c ∈ t, gap c = false
theorem toks_app {t s : List Nat} (h : Tok t) (hs : s = [] ∨ ∃ c r, s = c :: r ∧ gap c = true) : toks (t ++ s) = t :: toks s := by
  cases t with
  | nil => exact absurd rfl h.ne
  | cons c r =>
    have g := h.ng c List.mem_cons_self
    have e := h.cut s hs
    rw [List.cons_append] at e ⊢
    rw [toks_tok g, e]
    have e1 : (c :: (r ++ s)).take (c :: r).length = c :: r := by rw [← List.cons_append, List.take_left']; rfl
    have e2 : (c :: (r ++ s)).drop (c :: r).length = s := by rw [← List.cons_append, List.drop_left']; rfl
    rw [e1, e2]
theorem run_cut : ∀ (l s : List Nat), (s = [] ∨ ∃ c r, s = c :: r ∧ gap c = true) → run (l.take (run l) ++ s) = run l
  | [], s, hs => by
    rcases hs with rfl | ⟨c, r, rfl, g⟩
    · rfl
    · show run (c :: r) = 0
      rw [run_cons, g]; simp
  | c :: r, s, hs => by
    by_cases q : (gap c || sgn (c :: r) != 0) = true
    · have e : run (c :: r) = 0 := by rw [run_cons, if_pos q]
      rw [e]
      rcases hs with rfl | ⟨d, r', rfl, g⟩
      · rfl
      · show run (d :: r') = 0
        rw [run_cons, g]; simp
    · have e : run (c :: r) = 1 + run r := by rw [run_cons, if_neg q]
      rw [e, Nat.add_comm 1, List.take_succ_cons, List.cons_append]
      have ih := run_cut r s hs
      simp at q
      obtain ⟨qg, qs⟩ := q
      have q2 : (gap c || sgn (c :: (r.take (run r) ++ s)) != 0) = false := by
        rw [qg]
        simp
        have sc : single c = false := by
          cases r with
          | nil =>
            rw [sgn_one] at qs
            split at qs
            · cases qs
            · rename_i nn; simpa using nn
          | cons d r2 =>
            rw [sgn_two] at qs
            split at qs
            · cases qs
            · split at qs
              · cases qs
              · rename_i nn; simpa using nn
        cases hh : r.take (run r) ++ s with
        | nil => rw [sgn_one, sc]; rfl
        | cons d r2 =>
          rw [sgn_two, sc]
          have nd : ((c == 60 && d == 60) || (c == 62 && d == 62)) = false := by
            cases r with
            | nil =>
              rw [List.take_nil, List.nil_append] at hh
              rcases hs with z | ⟨c2, r3, z, g⟩
              · rw [z] at hh; cases hh
              · rw [z] at hh
                injection hh with h1 _
                subst h1
                unfold gap at g
                simp at g
                rcases g with rfl | rfl <;> simp
            | cons d2 r3 =>
              by_cases z0 : run (d2 :: r3) = 0
              · rw [z0, List.take_zero, List.nil_append] at hh
                rcases hs with z | ⟨c2, r4, z, g⟩
                · rw [z] at hh; cases hh
                · rw [z] at hh
                  injection hh with h1 _
                  subst h1
                  unfold gap at g
                  simp at g
                  rcases g with rfl | rfl <;> simp
              · obtain ⟨k, hk⟩ : ∃ k, run (d2 :: r3) = k + 1 := ⟨run (d2 :: r3) - 1, by omega⟩
                rw [hk, List.take_succ_cons, List.cons_append] at hh
                injection hh with h1 _
                subst h1
                rw [sgn_two] at qs
                split at qs
                · cases qs
                · rename_i nn
                  simpa using nn
          rw [nd]
          rfl
      rw [show run (c :: (r.take (run r) ++ s)) = 1 + run (r.take (run r) ++ s) by rw [run_cons, if_neg (by rw [q2]; decide)], ih, Nat.add_comm]
theorem run_ng : ∀ (l : List Nat), ∀ c ∈ l.take (run l), gap c = false
  | [], _, h => by cases h
  | c :: r, d, h => by
    by_cases q : (gap c || sgn (c :: r) != 0) = true
    · rw [run_cons, if_pos q] at h; cases h
    · rw [run_cons, if_neg q, Nat.add_comm, List.take_succ_cons] at h
      rcases List.mem_cons.mp h with z | z
      · subst z; simp at q; exact q.1
      · exact run_ng r d z
theorem ng_double {c d : Nat} (h : ((c == 60 && d == 60) || (c == 62 && d == 62)) = true) : gap c = false ∧ gap d = false := by
  simp at h
  rcases h with ⟨rfl, rfl⟩ | ⟨rfl, rfl⟩ <;> exact ⟨rfl, rfl⟩
theorem no_double {c d : Nat} (h : gap d = true) : ((c == 60 && d == 60) || (c == 62 && d == 62)) = false := by
  unfold gap at h
  simp at h
  rcases h with rfl | rfl <;> simp
theorem tok_one {c : Nat} {r : List Nat} (h : gap c = false) : Tok ((c :: r).take (one (c :: r))) := by
  by_cases e : sgn (c :: r) = 0
  · have o : one (c :: r) = run (c :: r) := if_pos e
    have rp : 0 < run (c :: r) := by rw [← o]; exact one_pos h
    rw [o]
    refine ⟨fun s hs => ?_, fun z => ?_, run_ng _⟩
    · have rc := run_cut (c :: r) s hs
      have s0 : sgn ((c :: r).take (run (c :: r)) ++ s) = 0 := by
        cases hh : (c :: r).take (run (c :: r)) ++ s with
        | nil => rfl
        | cons d r2 =>
          rw [hh, run_cons] at rc
          split at rc
          · omega
          · rename_i nn
            simp at nn
            exact nn.2
      unfold one
      rw [if_pos s0, rc, List.length_take]
      have := run_le (c :: r)
      omega
    · have := congrArg List.length z
      rw [List.length_take] at this
      have := run_le (c :: r)
      simp at *
      omega
  · have o : one (c :: r) = sgn (c :: r) := if_neg e
    rw [o]
    have key : (single c = true ∧ sgn (c :: r) = 1) ∨ ∃ d r2, r = d :: r2 ∧ ((c == 60 && d == 60) || (c == 62 && d == 62)) = true ∧ sgn (c :: r) = 2 := by
      cases r with
      | nil =>
        rw [sgn_one] at e ⊢
        split at e
        · rename_i nn; exact .inl ⟨nn, by rw [if_pos nn]⟩
        · exact absurd rfl e
      | cons d r2 =>
        rw [sgn_two] at e ⊢
        by_cases nn : ((c == 60 && d == 60) || (c == 62 && d == 62)) = true
        · exact .inr ⟨d, r2, rfl, nn, by rw [if_pos nn]⟩
        · rw [if_neg nn] at e ⊢
          by_cases n2 : single c = true
          · exact .inl ⟨n2, by rw [if_pos n2]⟩
          · rw [if_neg n2] at e; exact absurd rfl e
    rcases key with ⟨sc, se⟩ | ⟨d, r2, rfl, dd, se⟩
    · rw [se]
      refine ⟨fun s hs => ?_, by simp, fun x hx => ?_⟩
      · show one (c :: s) = 1
        have : sgn (c :: s) = 1 := by
          rcases hs with rfl | ⟨d, r2, rfl, g⟩
          · rw [sgn_one, if_pos sc]
          · rw [sgn_two, no_double g, if_neg (by decide), if_pos sc]
        unfold one
        rw [this]; rfl
      · have : x = c := by simpa using hx
        rw [this]; exact h
    · rw [se]
      refine ⟨fun s hs => ?_, by simp, fun x hx => ?_⟩
      · show one (c :: d :: s) = 2
        have : sgn (c :: d :: s) = 2 := by rw [sgn_two, if_pos dd]
        unfold one
        rw [this]; rfl
      · have hx' : x = c ∨ x = d := by simpa using hx
        rcases hx' with z | z
        · rw [z]; exact h
        · rw [z]; exact (ng_double dd).2
theorem toks_gaps : ∀ (s l : List Nat), (∀ c ∈ s, gap c = true) → toks (s ++ l) = toks l
  | [], _, _ => rfl
  | c :: r, l, h => by
    rw [List.cons_append, toks_gap (h c List.mem_cons_self)]
    exact toks_gaps r l fun d hd => h d (List.mem_cons_of_mem _ hd)
def jn (sep : List Nat) : List (List Nat) → List Nat
  | [] => []
  | [t] => t
  | t :: u :: r => t ++ (sep ++ jn sep (u :: r))
theorem toks_jn (sep tail : List Nat) (hne : sep ≠ []) (hs : ∀ c ∈ sep, gap c = true) (ht : ∀ c ∈ tail, gap c = true) : ∀ ts : List (List Nat), (∀ t ∈ ts, Tok t) → toks (jn sep ts ++ tail) = ts
  | [], _ => by
    have := toks_gaps tail [] ht
    rw [List.append_nil] at this
    exact this
  | [t], h => by
    have e : tail = [] ∨ ∃ c r, tail = c :: r ∧ gap c = true := by
      cases tail with
      | nil => exact .inl rfl
      | cons c r => exact .inr ⟨c, r, rfl, ht c List.mem_cons_self⟩
    show toks (t ++ tail) = [t]
    rw [toks_app (h t List.mem_cons_self) e]
    have := toks_gaps tail [] ht
    rw [List.append_nil] at this
    rw [this]; rfl
  | t :: u :: r, h => by
    show toks ((t ++ (sep ++ jn sep (u :: r))) ++ tail) = _
    rw [List.append_assoc, List.append_assoc]
    have e : sep ++ (jn sep (u :: r) ++ tail) = [] ∨ ∃ c r', sep ++ (jn sep (u :: r) ++ tail) = c :: r' ∧ gap c = true := by
      cases hsep : sep with
      | nil => exact absurd hsep hne
      | cons c r' => exact .inr ⟨c, _, rfl, hs c (by rw [hsep]; exact List.mem_cons_self)⟩
    rw [toks_app (h t List.mem_cons_self) e, toks_gaps sep _ hs, toks_jn sep tail hne hs ht (u :: r) fun x hx => h x (List.mem_cons_of_mem _ hx)]
end TK
namespace L2
open PySem PySem.Spec PyProof.Rows
def S (l : List Nat) : Str := ⟨l.toArray⟩
theorem S_len (l : List Nat) : (S l).length = l.length := by show l.toArray.size = _; simp
theorem S_inj {a b : List Nat} : S a = S b ↔ a = b := ⟨fun h => by
  have : (S a).cps.toList = (S b).cps.toList := by rw [h]
  simpa [S] using this, fun h => by rw [h]⟩
def cutL (l : List Nat) (lo hi : Option Int) : List Nat := (l.drop (HT.sIx l.length 0 lo)).take (HT.sIx l.length l.length hi - HT.sIx l.length 0 lo)
theorem sIx_le' (n : Nat) (v : Option Int) (d : Nat) (hd : d ≤ n) : HT.sIx n d v ≤ n := by
  cases v with
  | none => exact hd
  | some i =>
    show (if i < 0 then (i + (n : Int)).toNat else min i.toNat n) ≤ n
    split <;> omega
open PySem.Builtin.Str in
theorem indices_cut (lo hi : Option Int) (n : Nat) : strSliceIndices lo hi 1 n = (List.range (HT.sIx n n hi - HT.sIx n 0 lo)).map (HT.sIx n 0 lo + ·) := by
  have clip : ∀ (v : Option Int) (d : Nat), d ≤ n → (match v with | none => (d : Int) | some i => max 0 (min (if i < 0 then i + (n : Int) else i) n)) = ((HT.sIx n d v : Nat) : Int) := fun v d hd => by
    cases v with
    | none => rfl
    | some i =>
      show max 0 (min (if i < 0 then i + (n : Int) else i) (n : Int)) = (((if i < 0 then (i + (n : Int)).toNat else min i.toNat n : Nat)) : Int)
      by_cases h : i < 0
      · rw [if_pos h, if_pos h]; omega
      · rw [if_neg h, if_neg h]; omega
  have c1 := clip lo 0 (Nat.zero_le _)
  have c2 := clip hi n (Nat.le_refl _)
  rw [← sliceRange_one]
  rw [← c1, ← c2]
  unfold strSliceIndices
  simp only [show (1 : Int) > 0 by decide, if_true]
  cases lo <;> cases hi <;> rfl
theorem pick_codes (l : List Nat) (a : Nat) : ∀ k, ((List.range k).map (a + ·)).filterMap (fun i => l.toArray[i]?) = (l.drop a).take k
  | 0 => by simp
  | k + 1 => by
    rw [List.range_succ, List.map_append, List.filterMap_append, pick_codes l a k, List.take_add_one]
    congr 1
    rw [List.getElem?_drop]
    cases q : l[a + k]? with
    | none => simp [List.filterMap_cons, q]
    | some v => simp [List.filterMap_cons, q]
open PySem.Builtin.Str in
theorem slice_codes (l : List Nat) (lo hi : Option Int) : (if ((1 : Int) == 1 && (strSliceIndices lo hi 1 (S l).length).length == (S l).length) = true then S l else ⟨((strSliceIndices lo hi 1 (S l).length).filterMap ((S l).cps[·]?)).toArray⟩) = S (cutL l lo hi) := by
  rw [S_len, indices_cut]
  have e : ((List.range (HT.sIx l.length l.length hi - HT.sIx l.length 0 lo)).map (HT.sIx l.length 0 lo + ·)).filterMap ((S l).cps[·]?) = cutL l lo hi := pick_codes l _ _
  rw [e]
  by_cases c : ((1 : Int) == 1 && ((List.range (HT.sIx l.length l.length hi - HT.sIx l.length 0 lo)).map (HT.sIx l.length 0 lo + ·)).length == l.length) = true
  · rw [if_pos c]
    simp at c
    have h2 := sIx_le' l.length hi l.length (Nat.le_refl _)
    have : cutL l lo hi = l := by
      unfold cutL
      by_cases z : l.length = 0
      · have : l = [] := List.length_eq_zero_iff.mp z
        subst this; simp
      · have h0 : HT.sIx l.length 0 lo = 0 := by omega
        rw [h0, List.drop_zero, List.take_of_length_le (by omega)]
    rw [this]
  · rw [if_neg c]; rfl
section
variable {X : Cx}
theorem sl_str : SlR X (fun x lo hi H Q => ∃ l, x = .str (S l) ∧ l.length ≤ 100000 ∧ Q (.str (S (cutL l lo hi))) H) := by
  intro pins s σ H x v vl vu lo hi sl Q I rx hs pl pu h
  obtain ⟨l, rfl, hz, q⟩ := h
  obtain ⟨t, rfl⟩ := rx
  obtain ⟨os, hos, hcs, hds⟩ := id hs
  have sz : (100000 : Nat) ≤ sizeLine := by decide
  have lc : (S (cutL l lo hi)).length ≤ sizeLine := by
    rw [S_len]
    unfold cutL
    rw [List.length_take, List.length_drop]
    omega
  refine ⟨"str", _, F.slot_str_getitem.lookup, typeIs_str _ _ _, ?_⟩
  have fin : ∀ (a b : Option (Int × Tok)), a.map (·.1) = lo → b.map (·.1) = hi → s.heap.IsSlice sl a b none → wpAny (model X.prog X.w) X.A (getItem (.str (S l) t) (.ref sl)) (EP X pins σ Q) X.xe s := fun a b ea eb hS => by
    refine wpAny_getItem_str_slice hS rfl ?_
    unfold sliceMade slicePicked
    rw [ea, eb]
    refine post_val_or_str ?_
    show (if ((1 : Int) == 1 && (Builtin.Str.strSliceIndices lo hi 1 (S l).length).length == (S l).length) = true then S l else ⟨((Builtin.Str.strSliceIndices lo hi 1 (S l).length).filterMap ((S l).cps[·]?)).toArray⟩).length ≤ sizeLine ∧ ∀ t' k, EP X pins σ Q (.str (if ((1 : Int) == 1 && (Builtin.Str.strSliceIndices lo hi 1 (S l).length).length == (S l).length) = true then S l else ⟨((Builtin.Str.strSliceIndices lo hi 1 (S l).length).filterMap ((S l).cps[·]?)).toArray⟩) t') { s with toks := k }
    rw [slice_codes]
    exact ⟨lc, fun t' k => ⟨.str (S (cutL l lo hi)), H, I.tok _, ⟨t', rfl⟩, q⟩⟩
  cases pl with
  | none =>
    cases pu with
    | none => exact fin none none rfl rfl ⟨os, hos, hcs, hds⟩
    | int j u => exact fin none (some (j, u)) rfl rfl ⟨os, hos, hcs, hds⟩
  | int i u0 =>
    cases pu with
    | none => exact fin (some (i, u0)) none rfl rfl ⟨os, hos, hcs, hds⟩
    | int j u => exact fin (some (i, u0)) (some (j, u)) rfl rfl ⟨os, hos, hcs, hds⟩
theorem in_code (c : Nat) (l : List Nat) : (!(Builtin.Str.occurrences (S l) (S [c]) 0 (S l).length 1).isEmpty) = decide (c ∈ l) := by
  rw [Bool.eq_iff_iff, StrLaws.found_iff, decide_eq_true_iff]
  constructor
  · rintro ⟨i, hi, e⟩
    rw [S_len, S_len] at hi
    have hi' : i < l.length := by simp at hi; omega
    unfold Builtin.Str.subAt at e
    have e' : l.toArray.extract i (i + 1) = #[c] := eq_of_beq e
    have : (l.drop i).take 1 = [c] := by
      have := congrArg Array.toList e'
      simpa [List.extract_eq_drop_take] using this
    have hm : c ∈ (l.drop i).take 1 := by rw [this]; simp
    exact List.mem_of_mem_drop (List.mem_of_mem_take hm)
  · intro h
    obtain ⟨i, hi, e⟩ := List.getElem_of_mem h
    refine ⟨i, by rw [S_len, S_len]; simp; omega, ?_⟩
    unfold Builtin.Str.subAt
    have : l.toArray.extract i (i + 1) = #[c] := by
      apply Array.toList_inj.mp
      rw [Array.toList_extract]
      simp [List.extract_eq_drop_take, List.drop_eq_getElem_cons hi, e]
    show (l.toArray.extract i (i + 1) == #[c]) = true
    rw [this]; exact beq_self_eq_true _
def tOrS (ta tb : TE) : TE := fun σ H Q => ta σ H fun x H1 => ∃ l, x = .str (S l) ∧ l.length ≤ 100000 ∧ if l = [] then tb σ H1 Q else Q (.str (S l)) H1
theorem pe_orS {a b : Expr} {rest : List Expr} {pos : Pos} {ta tb : TE} (ha : PE X a ta) (hb : PE X (.BoolOp .Or (b :: rest) pos) tb) : PE X (.BoolOp .Or (a :: b :: rest) pos) (tOrS ta tb) := by
  intro pins s σ H Q I h
  refine BoolOp_or (thn (ha pins s σ H _ I h) fun v s1 ⟨x, H1, I1, r1, q1⟩ => ?_)
  obtain ⟨l, rfl, hz, q1⟩ := q1
  obtain ⟨t, rfl⟩ := r1
  refine PySem.P.truthy_str (by rw [S_len]; omega) ?_
  rw [S_len]
  by_cases e : l = []
  · subst e
    rw [if_pos rfl] at q1
    exact hb pins _ σ H1 Q (I1.tok _) q1
  · rw [if_neg e] at q1
    have : ((l.length : Int) != 0) = true := by
      have : l.length ≠ 0 := fun z => e (List.length_eq_zero_iff.mp z)
      simp; exact e
    rw [this]
    exact ⟨.str (S l), H1, I1.tok _, ⟨t, rfl⟩, q1⟩
theorem strs_of_vals : ∀ {ys : List Str} {us : List Value}, Vals (ys.map V.str) us → StrsAre us ys
  | [], _, .nil => .nil
  | n :: r, _, .cons h t => by
    obtain ⟨tk, rfl⟩ := h
    exact .cons n tk (strs_of_vals t)
theorem glued_jn (sep : List Nat) (ts : List (List Nat)) : Txt.join (S sep) (ts.map S) = S (TK.jn sep ts) := by
  have go : ∀ (r : List (List Nat)) (acc : List Nat), (r.map S).foldl (fun acc p => acc ++ (S sep).cps ++ p.cps) acc.toArray = (acc ++ (r.map (sep ++ ·)).flatten).toArray := by
    intro r
    induction r with
    | nil => intro acc; simp
    | cons t r ih =>
      intro acc
      rw [List.map_cons, List.foldl_cons]
      have : acc.toArray ++ (S sep).cps ++ (S t).cps = (acc ++ sep ++ t).toArray := by simp [S]
      rw [this, ih]
      simp
  have fl : ∀ (t : List Nat) (r : List (List Nat)), TK.jn sep (t :: r) = t ++ (r.map (sep ++ ·)).flatten := by
    intro t r
    induction r generalizing t with
    | nil => simp [TK.jn]
    | cons u r ih =>
      show t ++ (sep ++ TK.jn sep (u :: r)) = _
      rw [ih u]
      simp
  cases ts with
  | nil => rfl
  | cons t r =>
    show (⟨((t :: r).map S |>.drop 1).foldl (fun acc p => acc ++ (S sep).cps ++ p.cps) (((t :: r).map S).headD Str.empty).cps⟩ : Str) = _
    rw [fl]
    have := go r t
    show (⟨(r.map S).foldl (fun acc p => acc ++ (S sep).cps ++ p.cps) t.toArray⟩ : Str) = _
    rw [this]
    rfl
theorem mt_join : MtR X "str.join" (fun x xs H Q => ∃ sep a ts, x = .str (S sep) ∧ xs = [.ref a] ∧ SqL X.K H a (ts.map fun t => V.str (S t)) ∧ (ts.map List.length).sum + ts.length * sep.length ≤ 100000 ∧ Q (.str (S (TK.jn sep ts))) H) := by
  intro pins s σ H x xs v us Q I rx rv h
  obtain ⟨sep, a, ts, rfl, rfl, hS, hz, q⟩ := h
  obtain ⟨t, rfl⟩ := rx
  obtain ⟨u, rfl, ru⟩ := rv.one
  cases ru
  obtain ⟨its, r, pl, hz2⟩ := I.list hS
  have e : (ts.map fun t => V.str (S t)) = (ts.map S).map V.str := by rw [List.map_map]; rfl
  rw [e] at r
  refine join_list pl.isList (ys := ts.map S) (by simpa using strs_of_vals r) ?_ fun t' k => ?_
  · have : ((ts.map S).map (·.length)).sum = (ts.map List.length).sum := by
      rw [List.map_map]
      congr 1
    rw [this, List.length_map, S_len]
    omega
  · rw [glued_jn]
    exact ⟨.str (S (TK.jn sep ts)), H, I.tok _, ⟨t', rfl⟩, q⟩
end
end L2
namespace L2
open PySem PySem.Spec PyProof.Rows
section
variable {X : Cx}
open PySem.Builtin.Str in
theorem mt_splitA : MtR X "str.split" (fun x xs H Q => ∃ a b, x = .str a ∧ xs = [.str b] ∧ (b.length == 0) = false ∧ a.length ≤ 100000 ∧ ∀ p, H p = none → Q (.ref p) (upd H p (.lst ((Txt.split a b).map V.str)))) := by
  intro pins s σ H x xs v us Q I rx rv h
  obtain ⟨a, b, rfl, rfl, h0, h3, q⟩ := h
  obtain ⟨t, rfl⟩ := rx
  obtain ⟨u, rfl, ru⟩ := rv.one
  obtain ⟨t2, rfl⟩ := ru
  have sz : (100002 : Nat) ≤ sizeLine := by decide
  have hp : (partsBetween a (occurrences a b 0 a.length (a.length + 1)) b.length).length ≤ 100002 := by
    rw [PySem.length_partsBetween]
    have := StrLaws.occ_length_le a b 0 a.length (a.length + 1)
    omega
  cases h1 : (decide (a.length < b.length) || decide (Builtin.Str.strKind a < Builtin.Str.strKind b))
  · cases hf : (occurrences a b 0 a.length (a.length + 1)).isEmpty
    · have e1 : Txt.split a b = parts a b := by
        unfold Txt.split
        rw [h1, hf]
        rfl
      refine call_meets F.slot_str_split (typeIs_str _ _ _) F.entry_str_split (F.args_str_split_2 _ _) (meets_str_split_sep a b t t2 h1 h0 hf (by omega) (by omega)) ?_
      show PySem.wants _ _ _ { s with toks := _, heap := s.heap.push { cls := .type "list", data := .seq (strsFrom s.toks (parts a b)).toArray } }
      rw [strsFrom_eq]
      have e := numbered_texts s.toks (parts a b)
      have v0 := vals_strs (numbered s.toks (parts a b))
      rw [e] at v0
      rw [e1] at q
      refine ⟨.ref s.heap.objs.size, _, I.lnew (ys := (parts a b).map V.str) v0 (by rw [List.length_map]; unfold parts; omega), rfl, q _ (I.hok.fresh (Nat.le_refl _))⟩
    · have e1 : Txt.split a b = [a] := by
        unfold Txt.split
        rw [h1, hf]
        rfl
      rw [e1] at q
      refine call_meets F.slot_str_split (typeIs_str _ _ _) F.entry_str_split (F.args_str_split_2 _ _) (meets_str_split_not_found a b t t2 h1 h0 hf) ?_
      exact ⟨.ref s.heap.objs.size, _, I.lnew (ys := [V.str a]) (its := [.str a t]) (t' := s.toks) (.cons ⟨t, rfl⟩ .nil) (by show 1 ≤ sizeLine; decide), rfl, q _ (I.hok.fresh (Nat.le_refl _))⟩
  · have e1 : Txt.split a b = [a] := by
      unfold Txt.split
      rw [h1]
      rfl
    rw [e1] at q
    refine call_meets F.slot_str_split (typeIs_str _ _ _) F.entry_str_split (F.args_str_split_2 _ _) (meets_str_split_cannot_occur a b t t2 h1) ?_
    exact ⟨.ref s.heap.objs.size, _, I.lnew (ys := [V.str a]) (its := [.str a t]) (t' := s.toks) (.cons ⟨t, rfl⟩ .nil) (by show 1 ≤ sizeLine; decide), rfl, q _ (I.hok.fresh (Nat.le_refl _))⟩
variable {o e : Expr} {es : List Expr} {to te : TE} {t : TA} {name : Str} {apos cpos : Pos} {T id : String} {r : V → List V → Hp → VK → Prop}
end
end L2
namespace L2
open PySem PySem.Spec PyProof.Rows
section
variable {X : Cx}
theorem isi_ty {T : String} : CallR X (.builtin "isinstance") (fun xs H Q => ∃ x t b, xs = [x, .ty T] ∧ TyOf X.K H x t ∧ PySem.W.kitOne X.K t (.type T) = some b ∧ Q (.bl b) H) := by
  intro pins s σ H xs us Q I r h
  obtain ⟨x, t, b, rfl, ty, e, q⟩ := h
  cases r with
  | cons r0 rr =>
    cases rr with
    | cons r1 rr =>
      cases rr
      cases r1
      exact isinst_ok I r0 ty e fun tk => ⟨.bl b, H, I.tok _, rfl, q⟩
theorem op_fdivB : OpR X (binaryOp .FloorDiv) (rI (fun _ j => 0 < j ∧ j < 18446744073709551616) fun i j => .int (i / j)) := opI fun i j _ _ _ _ _ hc q => by
  have h1 : (0 : Int) < j := hc.1
  have h2 : j < 18446744073709551616 := hc.2
  refine floordiv_int (by omega) (by rw [Int.fdiv_eq_ediv_of_nonneg i (by omega)]; exact q) (.inl (PyProof.noPylong_of_log2 ?_))
  have h3 : j.natAbs ≠ 0 := by omega
  have : j.natAbs.log2 < 64 := (Nat.log2_lt h3).mpr (by show j.natAbs < 2 ^ 64; omega)
  omega
def Its (l : List Nat) : It := ⟨fun i _ => i < l.length, fun i H y H' => H' = H ∧ ∃ h : i < l.length, y = .str (S [l[i]]), fun i _ => l.length ≤ i⟩
theorem turn_ascii {P : Program} {w : World} {K : PySem.W.Frag} {tg : Expr} (l : List Nat) (t : Tok) (it : Addr) : Turn P w K tg (Its l) [it] it (fun i h => h.IsStrIter it "str_ascii_iterator" (S l) t i) where
  mem := by simp
  obj := fun i h st b hb => by
    have e : b = it := by simpa using hb
    subst e
    obtain ⟨o, e, c, d⟩ := st
    exact ⟨o, e, fun v z => by rw [d] at z; cases z⟩
  keep := fun i h h' st k => let ⟨o, ho, r⟩ := st; ⟨o, k it (by simp) o ho, r⟩
  item := by
    intro X hP hw hK hc i pins s σ H E I hf st hg
    subst hP hw hK
    have hg' : i < l.length := hg
    obtain ⟨f0, f1, f2, f3, f4, f5⟩ := hf it (by simp)
    refine wpAny_pyNext_ascii_item st (c := l[i]) (by show l.toArray[i]? = _; simp [hg']) fun h' st' sb => ?_
    have I1 : Inv X pins σ H { s with heap := h', toks := s.toks + 1 } := I.turned (fun b o hb e => (sb.2 b hb).trans e) f0 f1 f3 f4 f5
    obtain ⟨o, e, c, d⟩ := id st'
    exact ⟨_, rfl, go_of (s := { s with heap := h', toks := s.toks + 1 }) e c d (by decide) ⟨.str (S [l[i]]), H, I1, ⟨_, rfl⟩, ⟨rfl, hg', rfl⟩, st', fun b hb => (hf b hb).1⟩⟩
  done := by
    intro X hP hw hK hc i pins s σ H E I hf st hg
    subst hP hw hK
    have hg' : l.length ≤ i := hg
    obtain ⟨f0, f1, f2, f3, f4, f5⟩ := hf it (by simp)
    exact wpAny_pyNext_ascii_end (I.ok.hd hc) st (by show l.toArray[i]? = _; simp [hg']) fun h' eb => ⟨rfl, I.turned (t' := s.toks) (fun b o hb e => eb b o hb e) f0 f1 f3 f4 f5⟩
  self := fun _ _ _ _ _ st h => wpAny_pyIter_striter_ascii st h
theorem turn_wide {P : Program} {w : World} {K : PySem.W.Frag} {tg : Expr} (l : List Nat) (t : Tok) (it : Addr) : Turn P w K tg (Its l) [it] it (fun i h => h.IsStrIter it "str_iterator" (S l) t i) where
  mem := by simp
  obj := fun i h st b hb => by
    have e : b = it := by simpa using hb
    subst e
    obtain ⟨o, e, c, d⟩ := st
    exact ⟨o, e, fun v z => by rw [d] at z; cases z⟩
  keep := fun i h h' st k => let ⟨o, ho, r⟩ := st; ⟨o, k it (by simp) o ho, r⟩
  item := by
    intro X hP hw hK hc i pins s σ H E I hf st hg
    subst hP hw hK
    have hg' : i < l.length := hg
    obtain ⟨f0, f1, f2, f3, f4, f5⟩ := hf it (by simp)
    refine wpAny_pyNext_wide_item st (c := l[i]) (by show l.toArray[i]? = _; simp [hg']) fun h' st' sb => ?_
    have I1 : Inv X pins σ H { s with heap := h', toks := s.toks + 1 } := I.turned (fun b o hb e => (sb.2 b hb).trans e) f0 f1 f3 f4 f5
    obtain ⟨o, e, c, d⟩ := id st'
    exact ⟨_, rfl, go_of (s := { s with heap := h', toks := s.toks + 1 }) e c d (by decide) ⟨.str (S [l[i]]), H, I1, ⟨_, rfl⟩, ⟨rfl, hg', rfl⟩, st', fun b hb => (hf b hb).1⟩⟩
  done := by
    intro X hP hw hK hc i pins s σ H E I hf st hg
    subst hP hw hK
    have hg' : l.length ≤ i := hg
    obtain ⟨f0, f1, f2, f3, f4, f5⟩ := hf it (by simp)
    exact wpAny_pyNext_wide_end (I.ok.hd hc) st (by show l.toArray[i]? = _; simp [hg']) fun h' eb => ⟨rfl, I.turned (t' := s.toks) (fun b o hb e => eb b o hb e) f0 f1 f3 f4 f5⟩
  self := fun _ _ _ _ _ st h => wpAny_pyIter_striter_wide st h
def iStr (tl : TE) : TI := fun σ H R => tl σ H fun x H1 => ∃ l, x = .str (S l) ∧ R (Its l) H1
theorem pi_str {tg l : Expr} {tl : TE} (hl : PE X l tl) : PI X tg l (iStr tl) := by
  intro pins s σ H R I h
  refine thn (hl pins s σ H _ I h) fun v s1 ⟨x, H1, I1, r1, q1⟩ => ?_
  obtain ⟨l, e, q⟩ := q1
  subst e
  obtain ⟨t, rfl⟩ := r1
  have fp : ∀ b ∈ [s1.heap.objs.size], FpOk X pins H1 b := fun b hb => by
    have e : b = s1.heap.objs.size := by simpa using hb
    subst e
    exact I1.fpOk (Nat.le_refl _) (I1.hok.fresh (Nat.le_refl _))
  cases ha : (S l).cps.all (· < 128)
  · exact wpAny_pyIter_wide ha ⟨s1.heap.objs.size, [s1.heap.objs.size], _, _, H1, rfl, I1.kept (t' := s1.toks) fun b o e => Heap.get?_push_of_some _ e, turn_wide l t _, ⟨_, Heap.get?_push_size _ rfl, rfl, rfl⟩, fp, q⟩
  · exact wpAny_pyIter_ascii ha ⟨s1.heap.objs.size, [s1.heap.objs.size], _, _, H1, rfl, I1.kept (t' := s1.toks) fun b o e => Heap.get?_push_of_some _ e, turn_ascii l t _, ⟨_, Heap.get?_push_size _ rfl, rfl, rfl⟩, fp, q⟩
theorem lc_str {l : List Nat} {g : TG} {tf : TT} {te : TE} {ix : List (Option Nat)} {σ : St} {H : Hp} {Q : VK} (Pv : Nat → List V → Hp → Prop) (h0 : Pv 0 [] H)
    (hl : ∀ i ys H, i ≤ l.length → Pv i ys H → ys.length ≤ sizeLine)
    (hs : ∀ i ys H (h : i < l.length), Pv i ys H → g (.str (S [l[i]])) (st0 ix σ) H fun σ2 H2 => ExtL (st0 ix σ) σ2 ∧ tf σ2 H2 fun b H3 => if b = true then te σ2 H3 fun y H4 => Nx Pv l.length i (ys ++ [y]) H4 else Nx Pv l.length i ys H3)
    (hd : ∀ ys H, Pv l.length ys H → ∀ D, H D = none → Q (.ref D) (upd H D (.lst ys))) :
    LcGo (Its l) g tf te ix σ H Q := by
  refine ⟨fun i m ys H => m = l.length - i ∧ i ≤ l.length ∧ Pv i ys H, ⟨l.length, by simp, Nat.zero_le _, h0⟩, ?_⟩
  rintro i m ys H ⟨rfl, hi, p⟩
  have hz := hl i ys H hi p
  by_cases hlt : i < l.length
  · refine .inr ⟨hlt, hz, fun x H' y => ?_⟩
    obtain ⟨e, h, y⟩ := y
    subst e y
    exact hs i ys _ hlt p
  · have e : i = l.length := by omega
    subst e
    exact .inl ⟨Nat.le_refl _, hz, hd ys H p⟩
theorem call_all (hc : X.calm = true) : CallR X (.builtin "all") (fun xs H Q => ∃ (p : Addr) (bs : List Bool), xs = [.ref p] ∧ SqL X.K H p (bs.map V.bl) ∧ Q (.bl (bs.all id)) H) := by
  intro pins s σ H xs us Q I r h
  obtain ⟨p, bs, rfl, hS, q⟩ := h
  obtain ⟨u, rfl, rx⟩ := vals1 r
  cases rx
  obtain ⟨its, rv, pl, hz⟩ := I.list hS
  have hlen := rv.length
  rw [List.length_map] at hlen
  have hne : p ≠ s.heap.objs.size := by
    obtain ⟨o, ho, _⟩ := pl.isList
    exact Nat.ne_of_lt (Heap.lt_size ho)
  refine call_all_walk (wpAny_pyIter_list pl.isList ?_)
  refine ⟨s.heap.objs.size, _, _, _, _, _, fun i => bs.getD i true, rfl, Walks.list (A := X.A.in1) (I.ok.hd hc) s.heap.objs.size p hne its.toArray, ⟨⟨_, Heap.get?_push_size _ rfl, rfl, rfl⟩, pl.isList.at fun o e => Heap.get?_push_of_some _ e⟩, ?_, ?_⟩
  · intro i v s' Q' E' hv hq
    have hv' : its[i]? = some v := by simpa using hv
    have hlt : i < its.length := (List.getElem?_eq_some_iff.mp hv').1
    have hb : i < bs.length := by omega
    obtain ⟨u, hu, ru⟩ := rv.get (i := i) (x := .bl bs[i]) (by simp [hb])
    rw [hv'] at hu
    cases hu
    cases ru
    refine wpAny_truthy_bool ?_
    have e : bs.getD i true = bs[i] := by simp [List.getD, hb]
    dsimp only at hq
    rw [e] at hq
    exact hq
  · intro h' tk hk
    have e : (List.range its.toArray.size).all (fun i => bs.getD i true) = bs.all id := by
      rw [List.size_toArray, ← hlen, Bool.eq_iff_iff, List.all_eq_true, List.all_eq_true]
      constructor
      · intro z x hx
        obtain ⟨i, hi, e⟩ := List.getElem_of_mem hx
        have := z i (List.mem_range.mpr hi)
        rw [show bs.getD i true = bs[i] by simp [List.getD, hi], e] at this
        exact this
      · intro z i hi
        have hi' := List.mem_range.mp hi
        rw [show bs.getD i true = bs[i] by simp [List.getD, hi']]
        exact z _ (List.getElem_mem hi')
    rw [e]
    exact ⟨.bl _, H, I.kept fun b o e => hk b o (fun z => absurd (Heap.lt_size e) (by rw [List.mem_singleton.mp z]; exact Nat.lt_irrefl _)) (Heap.get?_push_of_some _ e), rfl, q⟩
end
end L2
namespace L2
open PySem PySem.Spec PyProof.Rows
section
variable {κ : Type} [DecidableEq κ]
def valV (kvs : List (κ × V)) (k : κ) : Option V := (kvs.find? fun kv => decide (kv.1 = k)).map (·.2)
def putK (kvs : List (κ × V)) (k : κ) (v : V) : List (κ × V) :=
  if (kvs.any fun kv => decide (kv.1 = k)) = true then kvs.map (fun kv => if kv.1 = k then (kv.1, v) else kv) else kvs ++ [(k, v)]
def dropK (kvs : List (κ × V)) (k : κ) : List (κ × V) := kvs.filter fun kv => decide (kv.1 ≠ k)
theorem valV_nil {k : κ} : valV ([] : List (κ × V)) k = none := rfl
theorem valV_pos {p : κ × V} {r : List (κ × V)} {k : κ} (e : p.1 = k) : valV (p :: r) k = some p.2 := by simp [valV, List.find?_cons, e]
theorem valV_neg {p : κ × V} {r : List (κ × V)} {k : κ} (e : ¬ p.1 = k) : valV (p :: r) k = valV r k := by simp [valV, List.find?_cons, e]
theorem valV_any (k : κ) : ∀ kvs : List (κ × V), (kvs.any fun kv => decide (kv.1 = k)) = (valV kvs k).isSome
  | [] => rfl
  | p :: r => by
    rw [List.any_cons]
    by_cases e : p.1 = k
    · simp only [valV_pos e, decide_eq_true e, Bool.true_or, Option.isSome_some]
    · rw [valV_neg e, decide_eq_false e, Bool.false_or]; exact valV_any k r
theorem valV_map (k j : κ) (y : V) : ∀ kvs : List (κ × V), valV (kvs.map fun kv => if kv.1 = k then (kv.1, y) else kv) j = (valV kvs j).map fun x => if j = k then y else x
  | [] => rfl
  | p :: r => by
    have ih := valV_map k j y r
    rw [List.map_cons]
    by_cases h : p.1 = k
    · rw [if_pos h]
      by_cases e : p.1 = j
      · rw [valV_pos (p := (p.1, y)) e, valV_pos e, Option.map_some, if_pos (e.symm.trans h)]
      · rw [valV_neg (p := (p.1, y)) e, valV_neg e, ih]
    · rw [if_neg h]
      by_cases e : p.1 = j
      · rw [valV_pos (p := p) e, valV_pos e, Option.map_some, if_neg (fun z => h (e.trans z))]
      · rw [valV_neg (p := p) e, valV_neg e, ih]
theorem valV_snoc (k j : κ) (y : V) : ∀ kvs : List (κ × V), valV kvs k = none → valV (kvs ++ [(k, y)]) j = if j = k then some y else valV kvs j
  | [], _ => by
    by_cases e : k = j
    · rw [if_pos e.symm]; exact valV_pos (p := (k, y)) e
    · rw [if_neg (fun z => e z.symm)]; exact valV_neg (p := (k, y)) e
  | p :: r, hn => by
    rw [List.cons_append]
    have hk : ¬ p.1 = k := fun z => by rw [valV_pos z] at hn; cases hn
    rw [valV_neg hk] at hn
    have ih := valV_snoc k j y r hn
    by_cases e : p.1 = j
    · rw [valV_pos e, valV_pos e, if_neg (fun z => hk (e.trans z))]
    · rw [valV_neg e, valV_neg e, ih]
theorem valV_put (kvs : List (κ × V)) (k j : κ) (y : V) : valV (putK kvs k y) j = if j = k then some y else valV kvs j := by
  unfold putK
  by_cases a : (kvs.any fun kv => decide (kv.1 = k)) = true
  · rw [if_pos a, valV_map]
    rw [valV_any] at a
    by_cases e : j = k
    · obtain ⟨x, hx⟩ := Option.isSome_iff_exists.mp a
      rw [if_pos e, e, hx, Option.map_some, if_pos rfl]
    · rw [if_neg e]
      cases valV kvs j with
      | none => rfl
      | some x => rw [Option.map_some, if_neg e]
  · rw [if_neg a]
    refine valV_snoc k j y kvs ?_
    rw [valV_any] at a
    cases q : valV kvs k with
    | none => rfl
    | some x => rw [q] at a; exact (a rfl).elim
theorem length_putK (kvs : List (κ × V)) (k : κ) (v : V) : (putK kvs k v).length ≤ kvs.length + 1 := by
  unfold putK
  split
  · rw [List.length_map]; omega
  · rw [List.length_append, List.length_cons, List.length_nil]; omega
theorem putK_new {kvs : List (κ × V)} {k : κ} (v : V) (h : valV kvs k = none) : putK kvs k v = kvs ++ [(k, v)] := by
  unfold putK
  rw [valV_any, h]
  exact if_neg (by decide)
theorem RelO.isSome_eq {o : Option V} {u : Option Value} (r : RelO o u) : o.isSome = u.isSome := by
  cases o with
  | none => cases u with
    | none => rfl
    | some _ => exact (show False from r).elim
  | some _ => cases u with
    | none => exact (show False from r).elim
    | some _ => rfl
theorem RelO.getD {o : Option V} {u : Option Value} {d : V} {d' : Value} (r : RelO o u) (rd : RelV d d') : RelV (o.getD d) (u.getD d') := by
  cases o with
  | none => cases u with
    | none => exact rd
    | some _ => exact (show False from r).elim
  | some _ => cases u with
    | none => exact (show False from r).elim
    | some _ => exact r
theorem KV.val {kvs : List (κ × V)} {vs : List (κ × Value)} (r : KV kvs vs) (k : κ) : RelO (valV kvs k) (valueAt vs k) := by
  unfold KV at r
  induction r with
  | nil => exact True.intro
  | @cons p q ps qs h t ih =>
    obtain ⟨h1, h2⟩ := h
    by_cases e : p.1 = k
    · have e' : q.1 = k := h1.symm.trans e
      have b : valueAt (q :: qs) k = some q.2 := by simp [valueAt, List.find?_cons, e']
      rw [valV_pos e, b]; exact h2
    · have e' : ¬ q.1 = k := fun z => e (h1.trans z)
      have b : valueAt (q :: qs) k = valueAt qs k := by simp [valueAt, List.find?_cons, e']
      rw [valV_neg e, b]; exact ih
theorem KV.any {kvs : List (κ × V)} {vs : List (κ × Value)} (r : KV kvs vs) (k : κ) : (kvs.any fun kv => decide (kv.1 = k)) = vs.any fun kv => decide (kv.1 = k) := by
  unfold KV at r
  induction r with
  | nil => rfl
  | cons h t ih => rw [List.any_cons, List.any_cons, ih, h.1]
theorem KV.repl {kvs : List (κ × V)} {vs : List (κ × Value)} (r : KV kvs vs) (k : κ) {y : V} {u : Value} (ry : RelV y u) :
    KV (kvs.map fun kv => if kv.1 = k then (kv.1, y) else kv) (vs.map fun kv => if kv.1 = k then (kv.1, u) else kv) := by
  unfold KV at r ⊢
  induction r with
  | nil => exact .nil
  | @cons p q ps qs h t ih =>
    rw [List.map_cons, List.map_cons]
    refine .cons ?_ ih
    obtain ⟨h1, h2⟩ := h
    by_cases e : p.1 = k
    · rw [if_pos e, if_pos (h1.symm.trans e)]; exact ⟨h1, ry⟩
    · rw [if_neg e, if_neg (fun z => e (h1.trans z))]; exact ⟨h1, h2⟩
theorem KV.put {kvs : List (κ × V)} {vs : List (κ × Value)} (r : KV kvs vs) (k : κ) {y : V} {u : Value} (ry : RelV y u) : KV (putK kvs k y) (stored vs k u) := by
  unfold putK stored
  rw [r.any k]
  by_cases e : (vs.any fun kv => decide (kv.1 = k)) = true
  · rw [if_pos e, if_pos e]; exact r.repl k ry
  · rw [if_neg e, if_neg e]; exact Paired.snoc r ⟨rfl, ry⟩
theorem KV.drop {kvs : List (κ × V)} {vs : List (κ × Value)} (r : KV kvs vs) (k : κ) : KV (dropK kvs k) (without vs k) := by
  unfold KV at r ⊢
  unfold dropK without
  induction r with
  | nil => exact .nil
  | @cons p q ps qs h t ih =>
    obtain ⟨h1, h2⟩ := h
    rw [List.filter_cons, List.filter_cons]
    by_cases e : p.1 = k
    · have a : ¬ decide (p.1 ≠ k) = true := by simp [e]
      have b : ¬ decide (q.1 ≠ k) = true := by simp [h1.symm.trans e]
      rw [if_neg a, if_neg b]; exact ih
    · have e' : ¬ q.1 = k := fun z => e (h1.trans z)
      have a : decide (p.1 ≠ k) = true := by simp [e]
      have b : decide (q.1 ≠ k) = true := by simp [e']
      rw [if_pos a, if_pos b]; exact .cons ⟨h1, h2⟩ ih
theorem KV.length {kvs : List (κ × V)} {vs : List (κ × Value)} (r : KV kvs vs) : kvs.length = vs.length := Paired.length r
end
theorem kV_is {P : Program} {w : World} {k : Key} {u : Value} (r : RelV (kV k) u) : (mixKind P w).is k u = true := by
  cases k with
  | inl i => obtain ⟨t, e⟩ := (show ∃ t, u = Value.int i t from r); subst e; exact mixKind_int P w i t
  | inr x => obtain ⟨t, e⟩ := (show ∃ t, u = Value.str x t from r); subst e; exact mixKind_str P w x t
theorem items_are {P : Program} {w : World} : ∀ {ks : List Key} {us : List Value}, Vals (ks.map kV) us → ItemsAre (mixKind P w) ks us
  | [], _, r => by rw [List.map_nil] at r; cases r; exact .nil
  | k :: ks, _, r => by
    rw [List.map_cons] at r
    cases r with
    | cons h t => exact .cons (kV_is h) (items_are t)
abbrev KT (H : Hp) : List (List Key × V) → List (List Key × Addr × Value) → Prop := Paired fun p q => p.1 = q.1 ∧ H q.2.1 = some (.tup (p.1.map kV)) ∧ RelV p.2 q.2.2
theorem KT.val {H : Hp} {kvs : List (List Key × V)} {xs : List (List Key × Addr × Value)} (r : KT H kvs xs) (k : List Key) : RelO (valV kvs k) ((atKey xs k).map (·.2)) := by
  induction r with
  | nil => exact True.intro
  | @cons p q ps qs h t ih =>
    obtain ⟨h1, _, h2⟩ := h
    by_cases e : p.1 = k
    · have e' : q.1 = k := h1.symm.trans e
      have b : atKey (q :: qs) k = some q.2 := by simp [atKey, List.find?_cons, e']
      rw [valV_pos e, b]; exact h2
    · have e' : ¬ q.1 = k := fun z => e (h1.trans z)
      have b : atKey (q :: qs) k = atKey qs k := by simp [atKey, List.find?_cons, e']
      rw [valV_neg e, b]; exact ih
theorem KT.repl {H : Hp} {kvs : List (List Key × V)} {xs : List (List Key × Addr × Value)} (r : KT H kvs xs) (k : List Key) {y : V} {u : Value} (ry : RelV y u) :
    KT H (kvs.map fun kv => if kv.1 = k then (kv.1, y) else kv) (xs.map (putAt k u)) := by
  induction r with
  | nil => exact .nil
  | @cons p q ps qs h t ih =>
    rw [List.map_cons, List.map_cons]
    refine .cons ?_ ih
    obtain ⟨h1, h2, h3⟩ := h
    unfold putAt
    by_cases e : p.1 = k
    · rw [if_pos e, if_pos (h1.symm.trans e)]; exact ⟨h1, h2, ry⟩
    · rw [if_neg e, if_neg (fun z => e (h1.trans z))]; exact ⟨h1, h2, h3⟩
theorem KT.put {H : Hp} {kvs : List (List Key × V)} {xs : List (List Key × Addr × Value)} (r : KT H kvs xs) (k : List Key) {b : Addr} {y : V} {u : Value} (hb : H b = some (.tup (k.map kV))) (ry : RelV y u) :
    KT H (putK kvs k y) (storedH xs k b u) := by
  have e : (kvs.any fun kv => decide (kv.1 = k)) = (atKey xs k).isSome := by
    rw [valV_any, (r.val k).isSome_eq, Option.isSome_map]
  unfold putK storedH
  rw [e]
  by_cases q : (atKey xs k).isSome = true
  · rw [if_pos q, if_pos q]; exact r.repl k ry
  · rw [if_neg q, if_neg q]; exact Paired.snoc r ⟨rfl, hb, ry⟩
theorem KT.keeps {H H' : Hp} {kvs : List (List Key × V)} {xs : List (List Key × Addr × Value)} (r : KT H kvs xs) (ht : ∀ b ys, H b = some (.tup ys) → H' b = some (.tup ys)) : KT H' kvs xs :=
  Paired.mapP r fun _ _ z => ⟨z.1, ht _ _ z.2.1, z.2.2⟩
section
variable {P : Program} {w : World} {H : Hp} {h : Heap} {a : Addr}
theorem rd_of {u : HO} (ok : HOk P w H h) (e : Rd H a u) : ObjOk P w H h a u := e.ok ok
theorem dk_rd {kvs : List (Key × V)} (ok : HOk P w H h) (e : Rd H a (.dK kvs)) : kvs.length ≤ sizeLine ∧ (a == sysModules) = false ∧ ∃ vs, KV kvs vs ∧ h.DictOf (mixKind P w) a vs :=
  show ObjOk P w H h a (.dK kvs) from rd_of ok e
theorem dk_of {kvs : List (Key × V)} (ok : HOk P w H h) (e : H a = some (.dK kvs)) : kvs.length ≤ sizeLine ∧ (a == sysModules) = false ∧ ∃ vs, KV kvs vs ∧ h.DictOf (mixKind P w) a vs := dk_rd ok (.inl e)
theorem key_of {ks : List Key} (ok : HOk P w H h) (e : H a = some (.tup (ks.map kV))) : (tupleKind (mixKind P w)).is h ks a := by
  obtain ⟨_, its, r, o, h1, h2, n, h3⟩ := (show ObjOk P w H h a (.tup (ks.map kV)) from ok a _ e)
  exact ⟨o, its.toArray, n, h1, (Prod.mk.inj h2).1, h3, by simpa using items_are r⟩
theorem dt_rd {kvs : List (List Key × V)} (ok : HOk P w H h) (e : Rd H a (.dT kvs)) : kvs.length ≤ sizeLine ∧ (a == sysModules) = false ∧
    ∃ xs, KT H kvs xs ∧ h.DictOfH (tupleKind (mixKind P w)) a xs := by
  obtain ⟨z, y, xs, r, o, es, ep, h1, h2, h3, h4, h5⟩ := (show ObjOk P w H h a (.dT kvs) from rd_of ok e)
  refine ⟨z, y, xs, r, o, es, ep, h1, h2, h3, h4, fun x hx => ?_, h5⟩
  have all : ∀ {l : List (List Key × V)} {m : List (List Key × Addr × Value)}, KT H l m → ∀ x ∈ m, (tupleKind (mixKind P w)).is h x.1 x.2.1 := by
    intro l m q
    induction q with
    | nil => intro x hx; exact nomatch hx
    | @cons p q ps qs hq t ih =>
      intro x hx
      rcases List.mem_cons.mp hx with e | hx
      · subst e
        exact key_of ok (by rw [← hq.1]; exact hq.2.1)
      · exact ih x hx
  exact all r x hx
theorem dt_of {kvs : List (List Key × V)} (ok : HOk P w H h) (e : H a = some (.dT kvs)) : kvs.length ≤ sizeLine ∧ (a == sysModules) = false ∧
    ∃ xs, KT H kvs xs ∧ h.DictOfH (tupleKind (mixKind P w)) a xs := dt_rd ok (.inl e)
end
def DGet (H : Hp) (a : Addr) (y : V) (r : Option V) : Prop :=
  (∃ kvs k, Rd H a (.dK kvs) ∧ y = kV k ∧ r = valV kvs k) ∨ ∃ kvs k b, Rd H a (.dT kvs) ∧ y = .ref b ∧ H b = some (.tup (k.map kV)) ∧ r = valV kvs k
def DPut (H : Hp) (a : Addr) (y v : V) (H' : Hp) : Prop :=
  (∃ kvs k, H a = some (.dK kvs) ∧ y = kV k ∧ kvs.length < sizeLine ∧ H' = upd H a (.dK (putK kvs k v))) ∨
  ∃ kvs k b, H a = some (.dT kvs) ∧ y = .ref b ∧ H b = some (.tup (k.map kV)) ∧ kvs.length < sizeLine ∧ H' = upd H a (.dT (putK kvs k v))
theorem DGet.k {H : Hp} {a : Addr} {kvs : List (Key × V)} {k : Key} (e : H a = some (.dK kvs)) : DGet H a (kV k) (valV kvs k) := .inl ⟨kvs, k, .inl e, rfl, rfl⟩
theorem DPut.k {H : Hp} {a : Addr} {kvs : List (Key × V)} {k : Key} {v : V} (e : H a = some (.dK kvs)) (hl : kvs.length < sizeLine) : DPut H a (kV k) v (upd H a (.dK (putK kvs k v))) := .inl ⟨kvs, k, e, rfl, hl, rfl⟩
section
variable {X : Cx} {pins : List (Addr × Obj)} {σ : St} {H : Hp} {s : Shared} {a : Addr} {y v : V} {u r : Value} {o : Option V} {A : Around} {E : Value → Shared → Prop}
theorem Inv.big (I : Inv X pins σ H s) : sysModules < s.heap.objs.size := by
  have h : mainGlobals < s.heap.objs.size := (I.mod.glob.keeps I.bk).lt
  exact Nat.lt_trans (by decide) h
theorem d_getItem {Q : Value → Shared → Prop} (hu : A.units + 1 < cLine) (I : Inv X pins σ H s) (g : DGet H a y (some v)) (ry : RelV y u) (h : ∀ w' s', Inv X pins σ H s' → RelV v w' → Q w' s') :
    wpAny (model X.prog X.w) A (getItem (.ref a) u) Q E s := by
  rcases g with ⟨kvs, k, e, ey, l⟩ | ⟨kvs, k, b, e, ey, eb, l⟩
  · subst ey
    obtain ⟨z, hd, vs, rel, dd⟩ := dk_rd I.hok e
    obtain ⟨w', hw, rw'⟩ := RelO.some_of (v := v) (o := valueAt vs k) (by rw [l]; exact rel.val k)
    exact wpAny_getItem_of (kV_is ry) dd.mapOf hw (h w' _ (I.tok _) rw')
  · subst ey
    cases (show u = Value.ref b from ry)
    obtain ⟨z, hd, xs, rel, dd⟩ := dt_rd I.hok e
    obtain ⟨w', hw, rw'⟩ := RelO.some_of (v := v) (o := (atKey xs k).map (·.2)) (by rw [l]; exact rel.val k)
    obtain ⟨p, hp, hp2⟩ := Option.map_eq_some_iff.mp hw
    refine wpAny_getItem_heap (tupleKind_room_in1 hu) (key_of I.hok eb) dd hp ?_
    rw [hp2]
    exact h w' _ (I.tok _) rw'
theorem d_in {Q : Value → Shared → Prop} (hu : A.units + 1 < cLine) (I : Inv X pins σ H s) (g : DGet H a y o) (ry : RelV y u) (h : ∀ s', Inv X pins σ H s' → Q (.bool o.isSome) s') :
    wpAny (model X.prog X.w) A (compareOp .In u (.ref a)) Q E s := by
  rcases g with ⟨kvs, k, e, ey, l⟩ | ⟨kvs, k, b, e, ey, eb, l⟩
  · subst ey
    obtain ⟨z, hd, vs, rel, dd⟩ := dk_rd I.hok e
    refine wpAny_in_of (kV_is ry) hd dd.mapOf ?_
    rw [← (rel.val k).isSome_eq, ← l]
    exact h _ (I.tok _)
  · subst ey
    cases (show u = Value.ref b from ry)
    obtain ⟨z, hd, xs, rel, dd⟩ := dt_rd I.hok e
    refine wpAny_in_heap (tupleKind_room_in1 hu) (key_of I.hok eb) hd dd ?_
    have q := (rel.val k).isSome_eq
    rw [Option.isSome_map] at q
    rw [← q, ← l]
    exact h _ (I.tok _)
theorem d_notIn {Q : Value → Shared → Prop} (hu : A.units + 1 < cLine) (I : Inv X pins σ H s) (g : DGet H a y o) (ry : RelV y u) (h : ∀ s', Inv X pins σ H s' → Q (.bool (!o.isSome)) s') :
    wpAny (model X.prog X.w) A (compareOp .NotIn u (.ref a)) Q E s := by
  rcases g with ⟨kvs, k, e, ey, l⟩ | ⟨kvs, k, b, e, ey, eb, l⟩
  · subst ey
    obtain ⟨z, hd, vs, rel, dd⟩ := dk_rd I.hok e
    refine wpAny_notIn_of (kV_is ry) hd dd.mapOf ?_
    rw [← (rel.val k).isSome_eq, ← l]
    exact h _ (I.tok _)
  · subst ey
    cases (show u = Value.ref b from ry)
    obtain ⟨z, hd, xs, rel, dd⟩ := dt_rd I.hok e
    refine wpAny_notIn_heap (tupleKind_room_in1 hu) (key_of I.hok eb) hd dd ?_
    have q := (rel.val k).isSome_eq
    rw [Option.isSome_map] at q
    rw [← q, ← l]
    exact h _ (I.tok _)
theorem d_write {h' : Heap} {t' : Nat} {ob : HO} (I : Inv X pins σ H s) (mu : Mut (H a)) (hs : Heap.SameBut a s.heap h') (he : ∃ q, h'.get? a = some q) (new : ObjOk X.prog X.w (upd H a ob) h' a ob) :
    Inv X pins σ (upd H a ob) { s with heap := h', toks := t' } :=
  I.write (x := a) (e := a) mu (.inl rfl) (fun b q hb z => (hs.2 b hb).trans z) he new
theorem dk_new {P : Program} {w : World} {H' : Hp} {h' : Heap} {kvs : List (Key × V)} {vs : List (Key × Value)} (z : kvs.length ≤ sizeLine) (hd : (a == sysModules) = false) (rel : KV kvs vs) (dd : h'.DictOf (mixKind P w) a vs) :
    ObjOk P w H' h' a (.dK kvs) := ⟨z, hd, vs, rel, dd⟩
theorem d_setItem {H' : Hp} {Q : Unit → Shared → Prop} (hu : A.units + 1 < cLine) (I : Inv X pins σ H s) (g : DPut H a y v H') (ry : RelV y u) (rv : RelV v r) (h : ∀ s', Inv X pins σ H' s' → Q () s') :
    wpAny (model X.prog X.w) A (setItem (.ref a) u r) Q E s := by
  rcases g with ⟨kvs, k, e, ey, l, eH⟩ | ⟨kvs, k, b, e, ey, eb, l, eH⟩
  · subst ey eH
    obtain ⟨z, hd, vs, rel, dd⟩ := dk_of I.hok e
    have hz : vs.length ≤ sizeLine := by rw [← rel.length]; exact z
    have hl : (putK kvs k v).length ≤ sizeLine := by have := length_putK kvs k v; omega
    refine wpAny_setItem_pairs (hsz := hz) (kV_is ry) dd fun h' dd' hs => h _ ?_
    have he : ∃ q, h'.get? a = some q := let ⟨q, _, _, hq, _⟩ := dd'; ⟨q, hq⟩
    exact d_write I (by rw [e]; exact True.intro) hs he (dk_new hl hd (rel.put k rv) dd')
  · subst ey eH
    cases (show u = Value.ref b from ry)
    obtain ⟨z, hd, xs, rel, dd⟩ := dt_of I.hok e
    have hz : xs.length ≤ sizeLine := by rw [← Paired.length rel]; exact z
    have hl : (putK kvs k v).length ≤ sizeLine := by have := length_putK kvs k v; omega
    refine wpAny_setItem_heap (hsz := hz) (tupleKind_room_in1 hu) (key_of I.hok eb) dd fun h' dd' hs => h _ ?_
    obtain ⟨q, es, ep, hq, h2, h3, h4, _, h5⟩ := dd'
    refine d_write I (by rw [e]; exact True.intro) hs ⟨q, hq⟩ ⟨hl, hd, _, (rel.put k eb rv).keeps fun c ys ec => ?_, q, es, ep, hq, h2, h3, h4, h5⟩
    rw [upd_ne (ne_of ec e (fun z => nomatch z))]
    exact ec
end
def NoSl (i : Expr) : Prop := ∀ ov iv, subscripted i false ov iv = operate [ov, iv] (getItem ov iv)
theorem subD_of {prog : Program} {w : World} {A : Around} {E : Value → Shared → Prop} {s : Shared} {env : Env} {value slice : Expr} {pos : Pos} {T id : String} {Q : Value → Shared → Prop}
    (hl : typeLookup (.type T) "__getitem__" = pure (some (.builtin id))) (hs : NoSl slice)
    (h : wpAny (model prog w) A (eval value env) (fun o s₁ => wpAny (model prog w) A (eval slice env) (fun i s₂ => s₂.TypeIs o T ∧ wpAny (model prog w) A (getItem o i) Q E s₂) E s₁) E s) :
    wpAny (model prog w) A (eval (.Subscript value slice pos) env) Q E s := by
  refine Subscript_ (wpAny_mono h (fun o s₁ h₁ => wpAny_mono h₁ (fun i s₂ h₂ => ?_) fun _ _ x => x) fun _ _ x => x)
  obtain ⟨hT, h₂⟩ := h₂
  unfold subscriptTail
  refine wpAny_bind ?_
  rw [getitemInPython_of_ne hT.not_modules]
  refine wpAny_bind (wpAny_specialOf hT hl ?_)
  have fin : wpAny (model prog w) A (subscripted slice false o i) (fun r s₃ => wpAny (model prog w) A (letTemporaryGo value o r >>= fun _ => pure r) Q E s₃) E s₂ := by
    rw [hs o i]
    exact wpAny_operating (wpAny_mono h₂ (fun r s₃ h₃ => wpAny_bind (wpAny_letTemporaryGo (wpAny_pure h₃))) fun _ _ x => x)
  first
    | exact wpAny_pure (wpAny_bind fin)
    | exact wpAny_bind (wpAny_pure (wpAny_bind fin))
    | exact wpAny_bind fin
theorem dict_typeIs {X : Cx} {pins : List (Addr × Obj)} {σ : St} {H : Hp} {s : Shared} {a : Addr} {y : V} {o : Option V} (I : Inv X pins σ H s) (g : DGet H a y o) : s.TypeIs (.ref a) "dict" := by
  rcases g with ⟨kvs, k, e, _, _⟩ | ⟨kvs, k, b, e, _, _, _⟩
  · obtain ⟨_, _, vs, _, dd⟩ := dk_rd I.hok e
    exact dd.typeIs
  · obtain ⟨_, _, xs, _, dd⟩ := dt_rd I.hok e
    exact dd.typeIs
def tDGet (td ty : TE) : TE := fun σ H Q => td σ H fun x H1 => ty σ H1 fun y H2 => ∃ a v, x = .ref a ∧ DGet H2 a y (some v) ∧ Q v H2
def tDIn (ty td : TE) : TE := fun σ H Q => ty σ H fun y H1 => td σ H1 fun x H2 => ∃ a o, x = .ref a ∧ DGet H2 a y o ∧ Q (.bl o.isSome) H2
def tDNotIn (ty td : TE) : TE := fun σ H Q => ty σ H fun y H1 => td σ H1 fun x H2 => ∃ a o, x = .ref a ∧ DGet H2 a y o ∧ Q (.bl (!o.isSome)) H2
def sDPut (td ty tv : TE) : TS := fun D σ H => tv σ H fun v H1 => td σ H1 fun x H2 => ty σ H2 fun y H3 => ∃ a H4, x = .ref a ∧ DPut H3 a y v H4 ∧ D.nx σ H4
section
variable {X : Cx} {o i e value : Expr} {pos pos' tpos : Pos} {td ty tv : TE}
theorem pe_dget (hu : X.A.units + 1 < cLine) (ho : PE X o td) (hi : PE X i ty) (hs : NoSl i) : PE X (.Subscript o i pos) (tDGet td ty) := by
  intro pins s σ H Q I h
  refine subD_of PySem.F.slot_dict_getitem.lookup hs (thn (ho pins s σ H _ I h) fun u s1 ⟨x, H1, I1, rx, q1⟩ => thn (hi pins s1 σ H1 _ I1 q1) fun iv s2 ⟨y, H2, I2, ry, a, v, ex, g, q2⟩ => ?_)
  subst ex
  obtain rfl : u = Value.ref a := rx
  exact ⟨dict_typeIs I2 g, d_getItem hu I2 g ry fun w' s3 I3 rw' => ⟨v, H2, I3, rw', q2⟩⟩
theorem pc_din (hu : X.A.units + 1 < cLine) (hi : PE X i ty) (ho : PE X o td) : PC X .In i o (tDIn ty td) := by
  intro pins s σ H Q I h
  refine thn (hi pins s σ H _ I h) fun iv s1 ⟨y, H1, I1, ry, q1⟩ => thn (ho pins s1 σ H1 _ I1 q1) fun u s2 ⟨x, H2, I2, rx, a, ov, ex, g, q2⟩ => ?_
  subst ex
  obtain rfl : u = Value.ref a := rx
  exact d_in hu I2 g ry fun s3 I3 => ⟨.bl ov.isSome, H2, I3, rfl, q2⟩
theorem pc_dnotin (hu : X.A.units + 1 < cLine) (hi : PE X i ty) (ho : PE X o td) : PC X .NotIn i o (tDNotIn ty td) := by
  intro pins s σ H Q I h
  refine thn (hi pins s σ H _ I h) fun iv s1 ⟨y, H1, I1, ry, q1⟩ => thn (ho pins s1 σ H1 _ I1 q1) fun u s2 ⟨x, H2, I2, rx, a, ov, ex, g, q2⟩ => ?_
  subst ex
  obtain rfl : u = Value.ref a := rx
  exact d_notIn hu I2 g ry fun s3 I3 => ⟨.bl (!ov.isSome), H2, I3, rfl, q2⟩
theorem ps_dput (hu : X.A.units + 1 < cLine) (ho : PE X o td) (hi : PE X i ty) (hv : PE X value tv) (hs : swapsWith value (some (.Subscript o i pos')) pos.line X.env = pure false) :
    PS X (.Assign [.Subscript o i pos'] value pos) (sDPut td ty tv) := by
  intro pins s σ H D I h
  refine wpAny_Assign_Subscript (thn (hv pins s σ H _ I h) fun r s1 ⟨v, H1, I1, rv, q1⟩ => thn (ho pins s1 σ H1 _ I1 q1) fun u s2 ⟨x, H2, I2, rx, q2⟩ => thn (hi pins s2 σ H2 _ I2 q2) fun iv s3 ⟨y, H3, I3, ry, a, H4, ex, g, q3⟩ => ?_) hs
  subst ex
  obtain rfl : u = Value.ref a := rx
  exact d_setItem hu I3 g ry rv fun s4 I4 => ⟨σ, H4, I4, q3⟩
end
theorem dk_empty {P : Program} {w : World} {H : Hp} (h : Heap) (hb : sysModules < h.objs.size) : ObjOk P w H (h.push { cls := .type "dict", data := .dict #[] }) h.objs.size (.dK []) :=
  ⟨Nat.zero_le _, beq_eq_false_iff_ne.mpr (Ne.symm (Nat.ne_of_lt hb)), [], .nil, Heap.DictOf.new h⟩
def tDNewK : TE := fun _ H Q => ∀ p, H p = none → Q (.ref p) (upd H p (.dK []))
section
variable {X : Cx} {pos : Pos}
theorem pe_dnewK : PE X (.Dict [] [] pos) tDNewK := fun pins s σ H Q I h =>
  wpAny_Dict_empty ⟨.ref s.heap.objs.size, _, I.laid (a := s.heap.objs.size) (o := .dK []) (t' := s.toks) (fun _ _ q => Heap.get?_push_of_some _ q) (Nat.le_refl _) (dk_empty s.heap I.big), rfl, h _ (I.hok.fresh (Nat.le_refl _))⟩
end
def tPairs : List (TE × TE) → St → Hp → (List (V × V) → Hp → Prop) → Prop
  | [], _, H, Q => Q [] H
  | (tk, tv) :: r, σ, H, Q => tk σ H fun x H1 => tv σ H1 fun y H2 => tPairs r σ H2 fun ps H3 => Q ((x, y) :: ps) H3
abbrev VV : List (V × V) → List (Value × Value) → Prop := Paired fun p q => RelV p.1 q.1 ∧ RelV p.2 q.2
def PPs (X : Cx) (pos : Pos) (keys : List (Option Expr)) (values : List Expr) (trs : List (TE × TE)) : Prop :=
  ∀ (pins : List (Addr × Obj)) (s : Shared) (σ : St) (H : Hp) (Q : List (V × V) → Hp → Prop), Inv X pins σ H s → tPairs trs σ H Q →
    wpAny (model X.prog X.w) X.A (evalPairs (pairTrees keys values X.env pos)) (fun vs s' => ∃ ps H', Inv X pins σ H' s' ∧ VV ps vs ∧ Q ps H') X.xe s
theorem pps_nil {X : Cx} {pos : Pos} : PPs X pos [] [] [] := fun pins s σ H Q I h => pairTrees_nil_walk ⟨[], H, I, .nil, h⟩
theorem pps_cons {X : Cx} {pos : Pos} {k v : Expr} {ks : List (Option Expr)} {vs : List Expr} {tk tv : TE} {trs : List (TE × TE)} (hk : PE X k tk) (hv : PE X v tv) (hr : PPs X pos ks vs trs) :
    PPs X pos (some k :: ks) (v :: vs) ((tk, tv) :: trs) := fun pins s σ H Q I h =>
  pairTrees_cons_walk (thn (hk pins s σ H _ I h) fun u s1 ⟨x, H1, I1, rx, q1⟩ => thn (hv pins s1 σ H1 _ I1 q1) fun w2 s2 ⟨y, H2, I2, ry, q2⟩ =>
    thn (hr pins s2 σ H2 _ I2 q2) fun ws s3 ⟨ps, H3, I3, rel, q3⟩ => ⟨(x, y) :: ps, H3, I3, .cons ⟨rx, ry⟩ rel, q3⟩)
def mergeK (kvs more : List (Key × V)) : List (Key × V) := more.foldl (fun acc kv => putK acc kv.1 kv.2) kvs
theorem KV.merge : ∀ {more : List (Key × V)} {rs : List (Key × Value)} {kvs : List (Key × V)} {vs : List (Key × Value)}, KV more rs → KV kvs vs → KV (mergeK kvs more) (merged vs rs) := by
  intro more rs kvs vs r
  unfold KV at r
  induction r generalizing kvs vs with
  | nil => intro q; exact q
  | @cons p q ps qs h t ih =>
    intro r0
    have e : KV (putK kvs p.1 p.2) (stored vs q.1 q.2) := by
      have := r0.put p.1 h.2
      rw [← h.1]; exact this
    exact ih e
theorem length_mergeK : ∀ (more kvs : List (Key × V)), (mergeK kvs more).length ≤ kvs.length + more.length
  | [], kvs => by show kvs.length ≤ kvs.length + 0; omega
  | p :: r, kvs => by
    have h1 := length_mergeK r (putK kvs p.1 p.2)
    have h2 := length_putK kvs p.1 p.2
    show (mergeK (putK kvs p.1 p.2) r).length ≤ _
    rw [List.length_cons]; omega
theorem carries_of {P : Program} {w : World} : ∀ {kvs : List (Key × V)} {ws : List (Value × Value)}, VV (kvs.map fun kv => (kV kv.1, kv.2)) ws → ∃ rs, Carries (mixKind P w) ws rs ∧ KV kvs rs
  | [], _, r => by rw [List.map_nil] at r; cases r; exact ⟨[], True.intro, .nil⟩
  | p :: kvs, _, r => by
    rw [List.map_cons] at r
    cases r with
    | @cons a b as bs h t =>
      obtain ⟨rs, c, q⟩ := carries_of (P := P) (w := w) t
      obtain ⟨b1, b2⟩ := b
      exact ⟨(p.1, b2) :: rs, ⟨kV_is h.1, rfl, c⟩, .cons ⟨rfl, h.2⟩ q⟩
def tDisp (trs : List (TE × TE)) : TE := fun σ H Q => ∀ p, H p = none → tPairs trs σ (upd H p (.dK [])) fun ps H2 => H2 p = some (.dK []) ∧ ∃ kvs : List (Key × V), ps = kvs.map (fun kv => (kV kv.1, kv.2)) ∧ kvs.length ≤ 15 ∧ Q (.ref p) (upd H2 p (.dK (mergeK [] kvs)))
theorem pe_disp {X : Cx} {pos : Pos} {keys : List (Option Expr)} {values : List Expr} {trs : List (TE × TE)} (h : PPs X pos keys values trs) (hall : keys.all (·.isSome) = true) (hl : keys.length = values.length) (h0 : keys ≠ [])
    (h15 : keys.length ≤ 15) : PE X (.Dict keys values pos) (tDisp trs) := by
  intro pins s σ H Q I q
  have hn := I.hok.fresh (Nat.le_refl s.heap.objs.size)
  have I1 := I.laid (a := s.heap.objs.size) (o := .dK []) (h' := s.heap.push { cls := .type "dict", data := .dict #[] }) (t' := s.toks) (fun _ _ q => Heap.get?_push_of_some _ q) (Nat.le_refl _) (dk_empty s.heap I.big)
  refine wpAny_Dict_walk (knd := mixKind X.prog X.w) hall hl h0 h15 (thn (h pins _ σ _ _ I1 (q _ hn)) fun ws s2 ⟨ps, H2, I2, rel, e, kvs, ep, lk, q2⟩ => ?_)
  subst ep
  obtain ⟨rs, c, rk⟩ := carries_of (P := X.prog) (w := X.w) rel
  obtain ⟨z, hd, vs0, r0, dd⟩ := dk_of I2.hok e
  cases r0
  refine ⟨rs, c, dd, fun h' dd' hs => ⟨.ref s.heap.objs.size, _, ?_, rfl, q2⟩⟩
  have hz : (mergeK [] kvs).length ≤ sizeLine := by
    have h1 := length_mergeK kvs []
    rw [List.length_nil] at h1
    rw [sizeLine_eq]; omega
  have he : ∃ q, h'.get? s.heap.objs.size = some q := let ⟨q, _, _, hq, _⟩ := dd'; ⟨q, hq⟩
  exact d_write I2 (by rw [e]; exact True.intro) hs he (dk_new hz hd (rk.merge .nil) dd')
structure M1 (X : Cx) (o : Expr) (m : Str) (apos : Pos) (e : Expr) (cpos : Pos) : Prop where
  base : attributeBase o m X.env (eval o X.env) = eval o X.env
  few : ((backTo cpos (starEach [e] X.env)).all (fun x => !x.1) && (backToKw cpos (keywordEach [] X.env)).all (fun x => x.1.isSome)
    && decide (([e] : List Expr).length + ([] : List Keyword).length + (if ([] : List Keyword).isEmpty then 0 else 1) < 30)) = true
  line : (apos.endLine == cpos.line) = true
  trees : backTo cpos (starEach [e] X.env) = [(false, eval e X.env)]
structure M2 (X : Cx) (o : Expr) (m : Str) (apos : Pos) (e f : Expr) (cpos : Pos) : Prop where
  base : attributeBase o m X.env (eval o X.env) = eval o X.env
  few : ((backTo cpos (starEach [e, f] X.env)).all (fun x => !x.1) && (backToKw cpos (keywordEach [] X.env)).all (fun x => x.1.isSome)
    && decide (([e, f] : List Expr).length + ([] : List Keyword).length + (if ([] : List Keyword).isEmpty then 0 else 1) < 30)) = true
  line : (apos.endLine == cpos.line) = true
  trees : backTo cpos (starEach [e, f] X.env) = [(false, eval e X.env), (false, eval f X.env)]
def IsD (H : Hp) (a : Addr) : Prop := (∃ kvs, Rd H a (.dK kvs)) ∨ ∃ kvs, Rd H a (.dT kvs)
theorem isD_at {X : Cx} {pins : List (Addr × Obj)} {σ : St} {H : Hp} {s : Shared} {a : Addr} (I : Inv X pins σ H s) (d : IsD H a) :
    s.TypeIs (.ref a) "dict" ∧ (∀ b, Value.ref a = .ref b → ∃ ob, s.heap.get? b = some ob ∧ ob.dict = none) ∧ (a == sysModules) = false := by
  rcases d with ⟨kvs, e⟩ | ⟨kvs, e⟩
  · obtain ⟨_, hd, vs, _, dd⟩ := dk_rd I.hok e
    refine ⟨dd.typeIs, fun b q => ?_, hd⟩
    cases q
    obtain ⟨ob, _, _, h1, h2, _⟩ := dd
    exact ⟨ob, h1, h2.2.1⟩
  · obtain ⟨_, hd, xs, _, dd⟩ := dt_rd I.hok e
    refine ⟨dd.typeIs, fun b q => ?_, hd⟩
    cases q
    obtain ⟨ob, _, _, h1, h2, _⟩ := dd
    exact ⟨ob, h1, h2.2.1⟩
end L2
namespace L2
open PySem PySem.Spec PyProof.Rows
def tCut (P : St → Hp → Prop) (t u : TS) : TS := fun D σ H => (∀ σ' H', P σ' H' → u D σ' H') ∧ t { D with nx := P } σ H
theorem pss_cut {X : Cx} {st : Stmt} {rest : List Stmt} {t u : TS} (P : St → Hp → Prop) (h1 : PS X st t) (h2 : PSs X rest u) : PSs X (st :: rest) (tCut P t u) := by
  intro pins s σ H D I h
  refine wpAny_execs_cons (thn (h1 pins s σ H { D with nx := P } I h.2) fun f s1 q => ?_)
  cases f with
  | next =>
    obtain ⟨σ', H', I', q⟩ := q
    exact h2 pins s1 σ' H' D I' (h.1 _ _ q)
  | ret v => exact q
  | brk => exact q
  | cont => exact q
end L2
namespace L2
open PySem PySem.Spec PyProof.Rows
theorem lc_tup {K : PySem.W.Frag} {a : Addr} {xs : List V} {g : TG} {tf : TT} {te : TE} {ix : List (Option Nat)} {σ : St} {H : Hp} {Q : VK} (Pv : Nat → List V → Hp → Prop) (h0 : Pv 0 [] H)
    (hl : ∀ i ys H, i ≤ xs.length → Pv i ys H → SqT K H a xs ∧ ys.length ≤ sizeLine)
    (hs : ∀ i x ys H, xs[i]? = some x → Pv i ys H → g x (st0 ix σ) H fun σ2 H2 => ExtL (st0 ix σ) σ2 ∧ tf σ2 H2 fun b H3 => if b = true then te σ2 H3 fun y H4 => Nx Pv xs.length i (ys ++ [y]) H4 else Nx Pv xs.length i ys H3)
    (hd : ∀ ys H, Pv xs.length ys H → ∀ D, H D = none → Q (.ref D) (upd H D (.lst ys))) :
    LcGo (Itt K a) g tf te ix σ H Q := by
  refine ⟨fun i m ys H => m = xs.length - i ∧ i ≤ xs.length ∧ Pv i ys H, ⟨xs.length, by simp, Nat.zero_le _, h0⟩, ?_⟩
  rintro i m ys H ⟨rfl, hi, p⟩
  obtain ⟨q, hz⟩ := hl i ys H hi p
  by_cases hlt : i < xs.length
  · refine .inr ⟨⟨xs, xs[i], q, by simp [hlt]⟩, hz, fun x H' y => ?_⟩
    obtain ⟨e, y⟩ := y
    subst e
    exact hs i x ys _ (y xs q) p
  · have e : i = xs.length := by omega
    subst e
    exact .inl ⟨⟨xs, q, Nat.le_refl _⟩, hz, hd ys H p⟩
section
variable {X : Cx}
theorem vals_tys : ∀ {Ts : List String} {us : List Value}, Vals (Ts.map V.ty) us → us = Ts.map Value.type
  | [], _, .nil => rfl
  | c :: r, _, .cons h t => by
    cases h
    rw [List.map_cons, vals_tys t]
end
def TupK (H H' : Hp) : Prop := ∀ a xs, H a = some (.tup xs) → H' a = some (.tup xs)
theorem TupK.refl (H : Hp) : TupK H H := fun _ _ e => e
theorem TupK.trans {H H1 H2 : Hp} (a : TupK H H1) (b : TupK H1 H2) : TupK H H2 := fun c x e => b c x (a c x e)
theorem kt_same {H H' : Hp} (s : Same H H') : TupK H H' := fun a xs e => s _ _ e
def okS (x : Str) : Bool := (PyData.str x).canLay0
mutual
inductive Td (H : Hp) : V → PyData → Prop
  | int (i : Int) : Td H (.int i) (.int i)
  | str (x : Str) (h : okS x = true) : Td H (.str x) (.str x)
  | tup {a : Addr} {xs : List V} {ds : List PyData} : H a = some (.tup xs) → TdAll H xs ds → Td H (.ref a) (.tuple ds)
inductive TdAll (H : Hp) : List V → List PyData → Prop
  | nil : TdAll H [] []
  | cons {v : V} {d : PyData} {vs : List V} {ds : List PyData} : Td H v d → TdAll H vs ds → TdAll H (v :: vs) (d :: ds)
end
mutual
theorem Td.kt {H H' : Hp} (k : TupK H H') : ∀ {v : V} {d : PyData}, Td H v d → Td H' v d
  | _, _, .int i => .int i
  | _, _, .str x h => .str x h
  | _, _, .tup e t => .tup (k _ _ e) (TdAll.kt k t)
theorem TdAll.kt {H H' : Hp} (k : TupK H H') : ∀ {vs : List V} {ds : List PyData}, TdAll H vs ds → TdAll H' vs ds
  | _, _, .nil => .nil
  | _, _, .cons h t => .cons (Td.kt k h) (TdAll.kt k t)
end
mutual
theorem Td.dt {K : PySem.W.Frag} {H : Hp} : ∀ {v : V} {d : PyData}, Td H v d → Dt K H v d
  | _, _, .int i => .int i
  | _, _, .str x _ => .str x
  | _, _, .tup e t => .tup (SqT.of e) (TdAll.dt t)
theorem TdAll.dt {K : PySem.W.Frag} {H : Hp} : ∀ {vs : List V} {ds : List PyData}, TdAll H vs ds → DtAll K H vs ds
  | _, _, .nil => .nil
  | _, _, .cons h t => .cons (Td.dt h) (TdAll.dt t)
end
mutual
theorem Td.lay {H : Hp} : ∀ {v : V} {d : PyData}, Td H v d → d.canLay0 = true
  | _, _, .int i => rfl
  | _, _, .str x h => h
  | _, _, .tup e t => TdAll.lay t
theorem TdAll.lay {H : Hp} : ∀ {vs : List V} {ds : List PyData}, TdAll H vs ds → PyData.canLayAll0 ds = true
  | _, _, .nil => rfl
  | _, _, .cons h t => by
    simp only [PyData.canLayAll0, Td.lay h, TdAll.lay t, Bool.and_self]
end
mutual
theorem Td.eqv {H : Hp} : ∀ {v : V} {d : PyData}, Td H v d → PyData.eqv d d = true
  | _, _, .int i => by simp [PyData.eqv]
  | _, _, .str x _ => by simp [PyData.eqv]
  | _, _, .tup e t => by simp only [PyData.eqv]; exact TdAll.eqv t
theorem TdAll.eqv {H : Hp} : ∀ {vs : List V} {ds : List PyData}, TdAll H vs ds → PyData.eqvAll ds ds = true
  | _, _, .nil => by simp [PyData.eqvAll]
  | _, _, .cons h t => by
    simp only [PyData.eqvAll, Td.eqv h, TdAll.eqv t, Bool.and_self]
end
theorem TdAll.length {H : Hp} : ∀ {vs : List V} {ds : List PyData}, TdAll H vs ds → vs.length = ds.length
  | _, _, .nil => rfl
  | _, _, .cons _ t => by rw [List.length_cons, List.length_cons, TdAll.length t]
theorem TdAll.snoc {H : Hp} {v : V} {d : PyData} (h : Td H v d) : ∀ {vs : List V} {ds : List PyData}, TdAll H vs ds → TdAll H (vs ++ [v]) (ds ++ [d])
  | _, _, .nil => .cons h .nil
  | _, _, .cons a t => .cons a (TdAll.snoc h t)
theorem TdAll.get {H : Hp} : ∀ {vs : List V} {ds : List PyData}, TdAll H vs ds → ∀ {i : Nat} {v : V}, vs[i]? = some v → ∃ d, ds[i]? = some d ∧ Td H v d
  | _, _, .nil, i, v, h => by simp at h
  | _, _, .cons a t, 0, v, h => by
    simp at h
    subst h
    exact ⟨_, rfl, a⟩
  | _, _, .cons a t, i + 1, v, h => by
    obtain ⟨d, e, k⟩ := TdAll.get t (i := i) (v := v) (by simpa using h)
    exact ⟨d, by simpa using e, k⟩
end L2
namespace L2
open PySem PySem.Spec PyProof.Rows
def tabOf (ps : List Nat) (led : Bool) : SetTable := { mask := 7, place := ps.toArray, dummies := #[], finger := 0, led := led, moves := 0, plain := true }
inductive EntP : List Nat → List (Int × Value) → Prop
  | nil : EntP [] []
  | cons {p : Nat} {t : Tok} {ps : List Nat} {es : List (Int × Value)} : EntP ps es → EntP (p :: ps) (((p : Int), .int p t) :: es)
def SetSm (h : Heap) (a : Addr) (ps : List Nat) (led : Bool) : Prop := ∃ o es ep, h.get? a = some o ∧ o.ExactSet ∧ o.data = .set es ep (tabOf ps led) ∧ EntP ps es.toList
theorem EntP.size {ps : List Nat} {es : List (Int × Value)} (h : EntP ps es) : es.length = ps.length := by
  induction h with
  | nil => rfl
  | cons _ ih => rw [List.length_cons, List.length_cons, ih]
theorem SetSm.keep {h h' : Heap} {a : Addr} {ps : List Nat} {led : Bool} (S : SetSm h a ps led) (k : ∀ o, h.get? a = some o → h'.get? a = some o) : SetSm h' a ps led := by
  obtain ⟨o, es, ep, ho, r⟩ := S
  exact ⟨o, es, ep, k o ho, r⟩
section
variable {prog : Program} {w : World} {A : Around} {E : Value → Shared → Prop} {s : Shared}
def ledOf (w : World) : Bool := !w.params.followText "set-order"
end
end L2
namespace L2
open PySem PySem.Spec PyProof.Rows
end L2
namespace L2
open PySem PySem.Spec PyProof.Rows
structure SmAt (w : World) (h : Heap) (a : Addr) (ps : List Nat) (es : Array (Int × Value)) (ep : Nat) : Prop where
  at_ : ∃ o, h.get? a = some o ∧ o.ExactSet ∧ o.data = .set es ep (tabOf ps (ledOf w))
  ent : EntP ps es.toList
  two : ps.length ≤ 2
  rise : ps.Pairwise (· < ·)
theorem SmAt.size {w : World} {h : Heap} {a : Addr} {ps : List Nat} {es : Array (Int × Value)} {ep : Nat} (S : SmAt w h a ps es ep) : es.size = ps.length := by
  rw [← Array.length_toList]
  exact S.ent.size
section
variable {prog : Program} {w : World} {A : Around} {E : Value → Shared → Prop} {s : Shared}
def SetIt (h : Heap) (it a : Addr) (slot i n ep : Nat) : Prop := ∃ o, h.get? it = some o ∧ o.cls = .type "set_iterator" ∧ o.data = .fields #[.int slot 0, .int i 0, .ref a, .int n 0, .int ep 0]
theorem SetIt.typeIs {it a : Addr} {slot i n ep : Nat} (h : SetIt s.heap it a slot i n ep) : s.TypeIs (.ref it) "set_iterator" := let ⟨o, ho, hc, _⟩ := h; ⟨o, ho, hc⟩
theorem SmAt.keep {h h' : Heap} {a : Addr} {ps : List Nat} {es : Array (Int × Value)} {ep : Nat} (S : SmAt w h a ps es ep) (k : ∀ o, h.get? a = some o → h'.get? a = some o) : SmAt w h' a ps es ep := by
  obtain ⟨⟨o, ho, r⟩, a1, a2, a3⟩ := S
  exact ⟨⟨o, k o ho, r⟩, a1, a2, a3⟩
end
end L2
namespace L2
open PySem PySem.Spec PyProof.Rows
def SetO (w : World) (a : Addr) (ps : List Nat) : HO := .ext fun h => SetSm h a ps (ledOf w)
section
variable {X : Cx}
def tMethD (X : Cx) (m : Str) (ta : TE) (t : TA) : TE := fun σ H Q => ta σ H fun x H1 => ∃ (a dx C f : Addr) (fs : List (Str × V)) (fd : FuncData) (k : Nat) (ps : List Str) (sp : Sp), x = .ref a ∧ H1 a = some (.ins C dx fs) ∧ fs.lookup m = none ∧
  Cls X.K C ∧ Meth X.K C m f ∧ FnOk X.prog X.w X.K X.mg X.base CX0 k f fd ps sp ∧ Room k X.A ∧ Binds X.K fd ps [] ∧ t σ H1 fun vs H2 => sp (.ref a :: vs) H2 Q E0
theorem pe_methD {pl : Sem Bool} {o e : Expr} {es : List Expr} {m : Str} {ta : TE} {t : TA} {pos apos : Pos} (he : PE X o ta) (ha : PA X (e :: es) t)
    (hst : starEach (e :: es) X.env = (false, eval e X.env) :: starEach es X.env := by rfl) (hpl : (backTo pos (starEach es X.env)).any (·.1) = false := by rfl)
    (ht : eval (.Call (.Attribute o m apos) (e :: es) [] pos) X.env = (do
      let ov ← eval o X.env
      standAt apos.atName
      let (f, first) ← holding [ov] (getMethod ov m pl)
      callWith pos f first (backTo pos (starEach (e :: es) X.env)) (backToKw pos (keywordEach [] X.env))) := by rfl) :
    PE X (.Call (.Attribute o m apos) (e :: es) [] pos) (tMethD X m ta t) := by
  intro pins s σ H Q I h
  refine PySem.W.methodCall_KW (pl := pl) (thn (he pins s σ H _ I h) fun u s1 ⟨x, H1, I1, rx, a, dx, C, f, fs, fd, k, ps, sp, ex, ea, l, c, hm, F, hr, hb, q⟩ => ?_) ht
  subst ex
  obtain rfl : u = Value.ref a := rx
  refine getmeth_ok I1 ea c hm l ?_
  refine PySem.W.callWith_K (first := [.ref a]) (h₀ := X.base) I.ok.mod.kin hm.kp (thn (ha pos pins s1 σ H1 _ I1 q) fun us s2 ⟨vs, H2, I2, r, q2⟩ => ⟨I2.kIn, ?_⟩) hst hpl
  exact run_fn (us := .ref a :: us) (vs := .ref a :: vs) (dvs := []) (ds := []) F hr hb .nil pass0 I2 (.cons rfl r) (by rw [List.append_nil]; exact q2)
def tMethD0 (X : Cx) (m : Str) (ta : TE) : TE := fun σ H Q => ta σ H fun x H1 => ∃ (a dx C f : Addr) (fs : List (Str × V)) (fd : FuncData) (k : Nat) (ps : List Str) (sp : Sp), x = .ref a ∧ H1 a = some (.ins C dx fs) ∧ fs.lookup m = none ∧
  Cls X.K C ∧ Meth X.K C m f ∧ FnOk X.prog X.w X.K X.mg X.base CX0 k f fd ps sp ∧ Room k X.A ∧ Binds X.K fd ps [] ∧ sp [.ref a] H1 Q E0
theorem pe_methD0 {pl : Sem Bool} {o : Expr} {m : Str} {ta : TE} {pos apos : Pos} (he : PE X o ta)
    (ht : eval (.Call (.Attribute o m apos) [] [] pos) X.env = (do
      let ov ← eval o X.env
      standAt apos.atName
      let (f, first) ← holding [ov] (getMethod ov m pl)
      callWith pos f first (backTo pos (starEach [] X.env)) (backToKw pos (keywordEach [] X.env))) := by rfl) :
    PE X (.Call (.Attribute o m apos) [] [] pos) (tMethD0 X m ta) := by
  intro pins s σ H Q I h
  refine PySem.W.methodCall_KW (pl := pl) (thn (he pins s σ H _ I h) fun u s1 ⟨x, H1, I1, rx, a, dx, C, f, fs, fd, k, ps, sp, ex, ea, l, c, hm, F, hr, hb, q⟩ => ?_) ht
  subst ex
  obtain rfl : u = Value.ref a := rx
  refine getmeth_ok I1 ea c hm l ?_
  exact PySem.W.callWith_K0 (first := [.ref a]) I1.kIn hm.kp (run_fn (us := [.ref a]) (vs := [.ref a]) (dvs := []) (ds := []) F hr hb .nil pass0 I1 (.cons rfl .nil) q)
end
end L2
namespace L2
open PySem PySem.Spec PyProof.Rows
def Ite (K : PySem.W.Frag) (l : Addr) : It :=
  ⟨fun i H => ∃ xs x, SqL K H l xs ∧ xs[i]? = some x,
   fun i H v H' => ∃ T x, v = .ref T ∧ H T = none ∧ H' = upd H T (.tup [.int i, x]) ∧ ∀ xs, SqL K H l xs → xs[i]? = some x,
   fun i H => ∃ xs, SqL K H l xs ∧ xs.length ≤ i⟩
theorem turn_enum {P : Program} {w : World} {K : PySem.W.Frag} {elts : List Expr} {kt : Nat} {tp : Pos} {e it l : Addr} (hne : e ≠ it) :
    Turn P w K (.Tuple elts kt tp) (Ite K l) [e, it] e (fun i h => (∃ old, IsEnum h e it i old) ∧ h.IsListIter it l i) where
  mem := by simp
  obj := fun i h st b hb => by
    obtain ⟨⟨old, he⟩, ⟨o1, h1, _, d1⟩⟩ := st
    simp at hb
    rcases hb with rfl | rfl
    · exact ⟨_, he, fun v q => by cases q⟩
    · exact ⟨_, h1, fun v q => by rw [d1] at q; cases q⟩
  keep := fun i h h' st k => by
    obtain ⟨⟨old, he⟩, h1⟩ := st
    exact ⟨⟨old, k e (by simp) _ he⟩, h1.at fun o q => k it (by simp) o q⟩
  item := by
    intro X hP hw hK hc i pins s σ H E I hf st hg
    subst hP hw hK
    obtain ⟨xs, x, hx, ex⟩ := hg
    obtain ⟨⟨old, he⟩, h1⟩ := st
    obtain ⟨its1, rv1, p1, z1⟩ := I.list hx
    obtain ⟨u1, eu1, ru1⟩ := rv1.get ex
    refine wpAny_pyNext_enum_item he h1 p1.isList (x := u1) (by simpa using eu1) hne fun h' a1 a2 a3 a4 a5 => ⟨_, rfl, ?_⟩
    refine wpAny_letOwnedTupleGo_enum a1 fun h'' b1 b2 => ?_
    have hT : H s.heap.objs.size = none := I.hok.fresh (Nat.le_refl _)
    have low : ∀ b o, s.heap.get? b = some o → b ≠ s.heap.objs.size := fun b o q => Nat.ne_of_lt (Heap.lt_size q)
    refine ⟨.ref s.heap.objs.size, upd H s.heap.objs.size (.tup [.int i, x]), ?_, rfl, ⟨s.heap.objs.size, x, rfl, hT, rfl, fun xs' h => by rw [I.list_inj h hx]; exact ex⟩, ?_, fun b hb => ?_⟩
    · show Inv X pins σ (upd H s.heap.objs.size (.tup [.int i, x])) { s with heap := h'', toks := s.toks + 1 }
      refine Inv.turnedS (s := s) (h' := h'') (t' := s.toks + 1) (ch := [e, it]) I (fun b hb => hf b hb) (fun b o hc q => ?_) (fun b o q => by rw [upd_ne (ne_of_none q hT)]; exact q) (fun b hb n => by rw [upd_ne (Nat.ne_of_lt hb)]; exact n) fun b o n q => ?_
      · simp at hc
        exact b2.extBut b o hc.1 (a5 b o hc.1 hc.2 q)
      · by_cases eb : b = s.heap.objs.size
        · subst eb
          rw [upd_same] at q
          cases q
          refine ⟨by show 2 ≤ sizeLine; decide, [.int i s.toks, u1], .cons ⟨_, rfl⟩ (.cons ru1 .nil), _, b2.extBut _ _ ?_ a3, rfl, _, rfl⟩
          exact fun z => low e _ he z.symm
        · rw [upd_ne eb, n] at q
          cases q
    · refine ⟨⟨_, b1⟩, a2.at fun o q => b2.extBut _ o hne.symm q⟩
    · have n := (hf b hb).1
      have : b ≠ s.heap.objs.size := by
        simp at hb
        obtain ⟨_, q1, _⟩ := id h1
        rcases hb with rfl | rfl
        · exact low _ _ he
        · exact low _ _ q1
      rw [upd_ne this]
      exact n
  done := by
    intro X hP hw hK hc i pins s σ H E I hf st hg
    subst hP hw hK
    obtain ⟨xs, hx, hl⟩ := hg
    obtain ⟨⟨old, he⟩, h1⟩ := st
    obtain ⟨its1, rv1, p1, z1⟩ := I.list hx
    have e1 := rv1.length
    refine wpAny_pyNext_enum_end (I.ok.hd hc) he h1 p1.isList (by simp; omega) fun h' k => ⟨rfl, ?_⟩
    obtain ⟨f0, f1, f2, f3, f4, f5⟩ := hf it (by simp)
    exact I.turned (t' := s.toks) (fun b o hb q => k b o hb q) f0 f1 f3 f4 f5
  self := fun _ _ _ _ _ st h => wpAny_pyIter_enum st.1.choose_spec h
section
variable {X : Cx}
def iEnum (K : PySem.W.Frag) (ta : TA) : TI := fun σ H R => ta σ H fun vs H1 => ∃ l, vs = [.ref l] ∧ (∃ xs, SqL K H1 l xs) ∧ R (Ite K l) H1
theorem boot_enum : bootBuiltins "enumerate" = some (.type "enumerate") := by decide +kernel
theorem pi_enum {elts : List Expr} {kt : Nat} {tp : Pos} {a : Expr} {ta : TA} {p pos : Pos} (hg : Gl X "enumerate") (hm : X.mg "enumerate" = none) (ha : PA X [a] ta) (hs : starEach [a] X.env = [(false, eval a X.env)] := by rfl) :
    PI X (.Tuple elts kt tp) (.Call (.Name "enumerate" p) [a] [] pos) (iEnum X.K ta) := by
  intro pins s σ H R I h
  refine Call_ (ld_blt I hg hm boot_enum (PyProof.Rows.callWith_type1 (thn (ha pos pins s σ H _ I h) fun us s1 ⟨vs, H1, I1, r1, q1⟩ => ?_) hs rfl))
  obtain ⟨l, e, ⟨xs, hx⟩, q⟩ := q1
  subst e
  cases r1 with
  | cons r rr =>
    cases rr
    cases r
    obtain ⟨its1, rv1, p1, z1⟩ := I1.list hx
    refine call_enumerate_list p1.isList fun h' a1 a2 a3 a4 => ?_
    refine wpAny_pyIter_enum a1 ?_
    refine ⟨_, [s1.heap.objs.size + 1, s1.heap.objs.size], _, _, H1, rfl, I1.kept (t' := s1.toks) a4, turn_enum (Nat.ne_of_gt (Nat.lt_succ_self _)), ⟨⟨_, a1⟩, a2⟩, fun b hb => ?_, q⟩
    have hb' : s1.heap.objs.size ≤ b := by
      simp only [List.mem_cons, List.not_mem_nil, or_false] at hb
      rcases hb with e | e <;> rw [e]
      · exact Nat.le_add_right _ _
      · exact Nat.le_refl _
    exact I1.fpOk hb' (I1.hok.fresh hb')
end
theorem for_enum {K : PySem.W.Frag} {l : Addr} {xs : List V} {g : TG} {tb : TS} {D : Ends} {σ : St} {H : Hp} (Pv : Nat → St → Hp → Prop) (h0 : Pv 0 σ H) (hl : ∀ i σ H, i ≤ xs.length → Pv i σ H → SqL K H l xs)
    (hs : ∀ i x σ H T, xs[i]? = some x → H T = none → Pv i σ H → g (.ref T) σ (upd H T (.tup [.int i, x])) fun σ2 H2 => tb { D with nx := Pv (i + 1), ct := Pv (i + 1), bk := D.nx } σ2 H2) (hd : ∀ σ H, Pv xs.length σ H → D.nx σ H) :
    ∃ W : Nat → Nat → St → Hp → Prop, (∃ m, W 0 m σ H) ∧ ∀ i m σ H, W i m σ H →
      ((Ite K l).stop i H ∧ D.nx σ H) ∨ ((Ite K l).go i H ∧ ∃ N : St → Hp → Prop, (∀ σ' H', N σ' H' → ∃ m', m' < m ∧ W (i + 1) m' σ' H') ∧ ∀ x H', (Ite K l).yld i H x H' → g x σ H' fun σ2 H2 => tb { D with nx := N, ct := N, bk := D.nx } σ2 H2) := by
  refine ⟨fun i m σ H => m = xs.length - i ∧ i ≤ xs.length ∧ Pv i σ H, ⟨xs.length, by simp, Nat.zero_le _, h0⟩, ?_⟩
  rintro i m σ H ⟨rfl, hi, p⟩
  have q := hl i σ H hi p
  by_cases hlt : i < xs.length
  · refine .inr ⟨⟨xs, xs[i], q, by simp [hlt]⟩, Pv (i + 1), fun σ' H' p' => ⟨xs.length - (i + 1), by omega, rfl, hlt, p'⟩, fun v H' y => ?_⟩
    obtain ⟨T, x, e1, hT, e2, hy⟩ := y
    subst e1 e2
    exact hs i x σ H T (hy xs q) hT p
  · have e : i = xs.length := by omega
    subst e
    exact .inl ⟨⟨xs, q, Nat.le_refl _⟩, hd σ H p⟩
end L2
namespace L2
open PySem PySem.Spec PyProof.Rows
def keyT (e : Int × Value) : Str := match e.2 with
  | .str s _ => s
  | _ => ""
def TxE (prog : Program) (w : World) (es : List (Int × Value)) (ss : List Str) : Prop := ElemsOf (PySem.strKind prog w) es ∧ (es.map keyT).Perm ss ∧ ss.Nodup
def SetTx (prog : Program) (w : World) (h : Heap) (a : Addr) (ss : List Str) : Prop := ∃ o es ep t, h.get? a = some o ∧ o.ExactSet ∧ o.data = .set es ep t ∧ t.fits es.size = true ∧ t.led = ledOf w ∧ (es.size ≠ 0 → t.plain = false) ∧ TxE prog w es.toList ss
theorem TxE.is {prog : Program} {w : World} {es : List (Int × Value)} {ss : List Str} (h : TxE prog w es ss) {e : Int × Value} (he : e ∈ es) : ∃ t, e.2 = .str (keyT e) t := by
  obtain ⟨⟨k, hk, _⟩, _⟩ := h.1 e he
  obtain ⟨t, z⟩ := Value.isStrOf_shape hk
  refine ⟨t, ?_⟩
  unfold keyT
  rw [z]
section
variable {prog : Program} {w : World} {A : Around} {E : Value → Shared → Prop} {s : Shared}
theorem SetTx.keep {h h' : Heap} {a : Addr} {ss : List Str} (S : SetTx prog w h a ss) (k : ∀ o, h.get? a = some o → h'.get? a = some o) : SetTx prog w h' a ss := by
  obtain ⟨o, es, ep, t, ho, r⟩ := S
  exact ⟨o, es, ep, t, k o ho, r⟩
end
end L2
namespace L2
open PySem PySem.Spec PyProof.Rows
end L2
namespace L2
open PySem PySem.Spec PyProof.Rows
structure TxA (prog : Program) (w : World) (h : Heap) (a : Addr) (es : Array (Int × Value)) (ep : Nat) (t : SetTable) : Prop where
  at_ : ∃ o, h.get? a = some o ∧ o.ExactSet ∧ o.data = .set es ep t
  fits : t.fits es.size = true
  led : t.led = ledOf w
  plain : es.size ≠ 0 → t.plain = false
theorem TxA.keep {prog : Program} {w : World} {h h' : Heap} {a : Addr} {es : Array (Int × Value)} {ep : Nat} {t : SetTable} (S : TxA prog w h a es ep t) (k : ∀ o, h.get? a = some o → h'.get? a = some o) : TxA prog w h' a es ep t := by
  obtain ⟨⟨o, ho, r⟩, a1, a2, a3⟩ := S
  exact ⟨⟨o, k o ho, r⟩, a1, a2, a3⟩
end L2
namespace L2
open PySem PySem.Spec PyProof.Rows
section
variable {prog : Program} {w : World} {A : Around} {E : Value → Shared → Prop} {s : Shared}
def SetItD (h : Heap) (it a T : Addr) (i n ep : Nat) : Prop := ∃ o, h.get? it = some o ∧ o.cls = .type "set_iterator" ∧ o.data = .fields #[.ref T, .int i 0, .ref a, .int n 0, .int ep 0]
def PlT (h : Heap) (T : Addr) (ps : List Nat) : Prop := ∃ o m, h.get? T = some o ∧ o.data = .seq ((ps.map fun (i : Nat) => rawInt i).toArray) m
theorem SetItD.typeIs {it a T : Addr} {i n ep : Nat} (h : SetItD s.heap it a T i n ep) : s.TypeIs (.ref it) "set_iterator" := let ⟨o, ho, hc, _⟩ := h; ⟨o, ho, hc⟩
end
theorem PlT.keep {h h' : Heap} {T : Addr} {ps : List Nat} (S : PlT h T ps) (k : ∀ o, h.get? T = some o → h'.get? T = some o) : PlT h' T ps := let ⟨o, m, ho, r⟩ := S; ⟨o, m, k o ho, r⟩
end L2
namespace L2
open PySem PySem.Spec PyProof.Rows
end L2
namespace L2
open PySem PySem.Spec PyProof.Rows
section
variable {X : Cx}
abbrev TJ := Str → St → Hp → (Str → Hp → Prop) → Prop
def PJ (X : Cx) (es : List Expr) (t : TJ) : Prop := ∀ (pins : List (Addr × Obj)) (s : Shared) (σ : St) (H : Hp) (acc : Str) (Q : VK), Inv X pins σ H s → t acc σ H (fun z H1 => z.length ≤ sizeLine ∧ Q (.str z) H1) →
  wpAny (model X.prog X.w) X.A (joinParts acc (evalEach es X.env)) (fun u s1 => ∃ x H1, Inv X pins σ H1 s1 ∧ RelV x u ∧ Q x H1) X.xe s
theorem pj_nil : PJ X [] (fun acc _ H Q => Q acc H) := by
  intro pins s σ H acc Q I h
  obtain ⟨hz, q⟩ := h
  exact joinParts_nilE (joinParts_nil ⟨.str _, H, I.tok _, ⟨_, rfl⟩, q⟩ hz)
theorem pj_lit {a : Str} {j : Nat} {p : Pos} {es : List Expr} {t : TJ} (h : PJ X es t) (ha : a.length ≤ sizeLine := by decide +kernel) : PJ X (.Constant (.str a) j p :: es) (fun acc σ H Q => (acc ++ a).length ≤ sizeLine ∧ t (acc ++ a) σ H Q) := by
  intro pins s σ H acc Q I hh
  obtain ⟨hz, q⟩ := hh
  refine joinParts_consE (joinParts_cons (Calls.Constant_str ?_))
  dsimp only
  exact ⟨hz, h pins _ σ H _ Q (I.tok _) q⟩
theorem pj_val {e : Expr} {te : TE} {p : Pos} {es : List Expr} {t : TJ} (he : PE X e te) (h : PJ X es t) : PJ X (.FormattedValue e (-1) none p :: es)
    (fun acc σ H Q => te σ H fun x H1 => (∃ i : Int, x = .int i ∧ i.natAbs.log2 < 1920 ∧ (acc ++ (toString i : Str)).length ≤ sizeLine ∧ t (acc ++ (toString i : Str)) σ H1 Q) ∨ (∃ z : Str, x = .str z ∧ z.length ≤ sizeLine ∧ (acc ++ z).length ≤ sizeLine ∧ t (acc ++ z) σ H1 Q)) := by
  intro pins s σ H acc Q I hh
  refine joinParts_consE (joinParts_cons (FormattedValue_plain (thn (he pins _ σ H _ I hh) fun u s1 ⟨x, H1, I1, r1, hx⟩ => ?_)))
  rcases hx with ⟨i, rfl, hi, hz, q⟩ | ⟨z, rfl, hi, hz, q⟩
  · obtain ⟨t', rfl⟩ := r1
    refine formatField_int_small hi ?_
    exact ⟨hz, h pins _ σ H1 _ Q (I1.tok _) q⟩
  · obtain ⟨t', rfl⟩ := r1
    refine formatField_str (fun t2 tk => ?_) hi
    exact ⟨hz, h pins _ σ H1 _ Q (I1.tok _) q⟩
theorem pe_fstr {v1 v2 : Expr} {es : List Expr} {t : TJ} {p : Pos} (h : PJ X (v1 :: v2 :: es) t) : PE X (.JoinedStr (v1 :: v2 :: es) p) (fun σ H Q => t Str.empty σ H fun z H1 => z.length ≤ sizeLine ∧ Q (.str z) H1) := by
  intro pins s σ H Q I hh
  exact JoinedStr_many (h pins s σ H Str.empty Q I hh)
end
end L2
namespace L3
open PySem L2
def top (i : Nat) : Stmt := PySem.Challenge.pw_rowsbeneath_k12_programs_written.main.body.getD i (.Pass ⟨0, 0, 0, 0⟩)
abbrev sNumberOf : Stmt := top 12
abbrev sWhole : Stmt := top 17
abbrev sWithin : Stmt := top 18
abbrev sWord : Stmt := top 19
abbrev sName : Stmt := top 20
abbrev sIsRow : Stmt := top 36
abbrev sIsOperand : Stmt := top 37
abbrev sProgramOf : Stmt := top 39
abbrev sShowProgram : Stmt := top 40
abbrev sOperandShown : Stmt := top 41
abbrev sReadProgram : Stmt := top 42
abbrev sReadBell : Stmt := top 43
abbrev sRowRead : Stmt := top 44
abbrev sOperandRead : Stmt := top 45
abbrev sReadForm : Stmt := top 57
abbrev sReadBounded : Stmt := top 58
abbrev sReadNames : Stmt := top 59
abbrev sReadKind : Stmt := top 60
abbrev sReadFields : Stmt := top 61
abbrev sReadField : Stmt := top 62
abbrev sReadBody : Stmt := top 63
abbrev sReadLeaf : Stmt := top 66
abbrev sReadEnd : Stmt := top 68
abbrev sTableOfForm : Stmt := top 75
abbrev sAddName : Stmt := top 76
abbrev sNeedKnown : Stmt := top 77
abbrev sKindsNamed : Stmt := top 78
abbrev sNamesWith : Stmt := top 79
abbrev sDeedOf : Stmt := top 80
abbrev sEndOf : Stmt := top 83
abbrev sTokens : Stmt := top 90
abbrev sSign : Stmt := top 91
abbrev sRun : Stmt := top 92
abbrev sReadTable : Stmt := top 93
abbrev sCell : Stmt := top 95
abbrev sStream : Stmt := top 96
abbrev sTake : Stmt := top 97
abbrev sNames : Stmt := top 98
abbrev sShape : Stmt := top 99
abbrev sShapeText : Stmt := top 100
abbrev sBounds : Stmt := top 101
abbrev sShapeRow : Stmt := top 102
abbrev sLine : Stmt := top 103
abbrev sLWhole : Stmt := top 104
abbrev sLSame : Stmt := top 105
abbrev sGood : Stmt := top 106
abbrev sLaw : Stmt := top 107
def Fn (P : Program) (w : World) (K : PySem.W.Frag) (mg : Str → Option Value) (base : Heap) (x : Str) (k : Nat) (ps : List Str) (sp : Sp) : Prop :=
  ∃ (f : Addr) (fd : FuncData), mg x = some (.ref f) ∧ PySem.W.keepIn K (.ref f) = true ∧ Binds K fd ps [] ∧ FnOk P w K mg base CX0 k f fd ps sp
def tFn (sp : Sp) (t : TA) : TE := fun σ H Q => t σ H fun vs H1 => sp vs H1 Q E0
theorem pe_fn {X : Cx} {x : Str} {k : Nat} {ps : List Str} {sp : Sp} {p pos : Pos} {e : Expr} {es : List Expr} {t : TA} (h : Fn X.prog X.w X.K X.mg X.base x k ps sp) (hr : Room k X.A) (hg : Gl X x) (ha : PA X (e :: es) t) (hdb : (x == ("__debug__" : Str)) = false := by decide)
    (he : starEach (e :: es) X.env = (false, eval e X.env) :: starEach es X.env := by rfl) (hpl : (backTo pos (starEach es X.env)).any (·.1) = false := by rfl) : PE X (.Call (.Name x p) (e :: es) [] pos) (tFn sp t) := by
  obtain ⟨f, fd, hm, hk, hb, F⟩ := h
  intro pins s σ H Q I q
  have ha' : PA X (e :: es) t := ha
  refine pe_call (dvs := []) (E := E0) F hr hg hm hk hb .nil pass0 ha' hdb he hpl pins s σ H Q I ?_
  show t σ H fun vs H1 => sp (vs ++ []) H1 Q E0
  have e2 : (fun vs H1 => sp (vs ++ []) H1 Q E0) = fun vs H1 => sp vs H1 Q E0 := by
    funext vs H1
    rw [List.append_nil]
  rw [e2]
  exact q
theorem same_new {H : Hp} {p : Addr} {o : HO} (h : H p = none) : Same H (upd H p o) := fun b u e => by rw [upd_ne (ne_of_none e h)]; exact e
theorem same_mut {H H2 : Hp} {p : Addr} {o : HO} (hp : H p = none) (s : Same H H2) : Same H (upd H2 p o) := fun b u e => by rw [upd_ne (ne_of_none e hp)]; exact s b u e
theorem iteB {A B : Prop} {b : Bool} (e : b = false) (h : B) : if b = true then A else B := by rw [e]; exact iteF h
theorem iteA {A B : Prop} {b : Bool} (e : b = true) (h : A) : if b = true then A else B := by rw [e]; exact iteT h
theorem at_code {l : List Nat} {i : Nat} (h : i < l.length) : atI (S l).cps.toList (i : Int) = some l[i] := atI_nat (by show l.toArray.toList[i]? = _; simp [h])
theorem nil_S : ("" : Str) = S [] := by decide +kernel
theorem S_of (z : Str) : z = S z.cps.toList := by
  show z = ⟨z.cps.toList.toArray⟩
  simp
theorem S_app (a b : List Nat) : S a ++ S b = S (a ++ b) := by
  show (⟨(S a).cps ++ (S b).cps⟩ : Str) = ⟨(a ++ b).toArray⟩
  congr 1
  simp [S]
theorem boot_isi : bootBuiltins "isinstance" = some (.builtin "isinstance") := by decide +kernel
theorem boot_list' : bootBuiltins "list" = some (.type "list") := by decide +kernel
theorem boot_str' : bootBuiltins "str" = some (.type "str") := by decide +kernel
theorem boot_bool' : bootBuiltins "bool" = some (.type "bool") := by decide +kernel
theorem boot_tuple' : bootBuiltins "tuple" = some (.type "tuple") := by decide +kernel
theorem boot_all' : bootBuiltins "all" = some (.builtin "all") := by decide +kernel
structure Bl (mg : Str → Option Value) : Prop where
  len : mg "len" = none
  int : mg "int" = none
  max : mg "max" = none
  min : mg "min" = none
  range : mg "range" = none
  isinstance : mg "isinstance" = none
  list : mg "list" = none
  str : mg "str" = none
  bool : mg "bool" = none
  tuple : mg "tuple" = none
  all : mg "all" = none
def strm (x y z : Int) : HO := .lst [.int x, .int y, .int z]
def Strm (H : Hp) (p : Addr) : Prop := ∃ x y z : Int, H p = some (strm x y z)
def But (p : Addr) (H H' : Hp) : Prop := ∀ b o, H b = some o → b ≠ p → H' b = some o
theorem But.refl (p : Addr) (H : Hp) : But p H H := fun _ _ e _ => e
theorem But.trans {p : Addr} {H H1 H2 : Hp} (a : But p H H1) (b : But p H1 H2) : But p H H2 := fun c o e n => b c o (a c o e n) n
theorem But.same {p : Addr} {H H1 H2 : Hp} (a : But p H H1) (b : Same H1 H2) : But p H H2 := fun c o e n => b c o (a c o e n)
theorem but_of {p : Addr} {H H1 : Hp} (b : Same H H1) : But p H H1 := fun c o e _ => b c o e
theorem Strm.same {p : Addr} {H H1 : Hp} (a : Strm H p) (b : Same H H1) : Strm H1 p := let ⟨x, y, z, e⟩ := a; ⟨x, y, z, b _ _ e⟩
theorem Strm.ne {p q : Addr} {H : Hp} (a : Strm H p) (h : H q = none) : p ≠ q := let ⟨_, _, _, e⟩ := a; ne_of_none e h
theorem Strm.apart {p q : Addr} {H H1 : Hp} {o : HO} (a : Strm H p) (h : H q = none) (b : But p H H1) (e : H1 q = some o) : p ≠ q := a.ne h
def spCell (K : PySem.W.Frag) : Sp := fun vs H Q _ => ∃ (a : Addr) (ns : List Int) (k : Int), vs = [.ref a, .int k] ∧ SqL K H a (ns.map V.int) ∧ 0 ≤ k ∧ ∀ c : Int, Q (.int c) H
def spStream : Sp := fun vs H Q _ => ∃ c : Int, vs = [.int c] ∧ ∀ (p : Addr) H', H p = none → Same H H' → Strm H' p → Q (.ref p) H'
def spTake : Sp := fun vs H Q _ => ∃ (p : Addr) (m : Nat), vs = [.ref p, .int m] ∧ Strm H p ∧ 0 < m ∧ m < 18446744073709551616 ∧ ∀ (r : Nat) H', r < m → Strm H' p → But p H H' → Q (.int r) H'
section
variable {P : Program} {w : World} {K : PySem.W.Frag} {mg : Str → Option Value} {base : Heap}
theorem scCell : FnScope ["_law_script", "_law_k"] ["_law_script", "_law_k"] (defScope sCell) := ⟨rfl, rfl, rfl, by decide +kernel, rfl, by decide +kernel, by decide +kernel⟩
theorem ok_cell {f : Addr} {fd : FuncData} (F : Fun K "_law_cell" "_law_cell" sCell f fd) (T : Bl mg) : FnOk P w K mg base CX0 1 f fd ["_law_script", "_law_k"] (spCell K) := by
  refine F.ok scCell (fun vs H Q E h => ?_) (fun cdv A outer s H vs Q E hr h => ?_)
  · obtain ⟨a, ns, k, rfl, _⟩ := h
    rfl
  · obtain ⟨a, ns, k, rfl, hS, h0, q⟩ := h
    refine ⟨_, pss_cons (ps_if (pt_cmpR op_lt (pv 1) (pe_callB call_len_seq (by rfl) T.len PySem.boot_len (pa_cons (pv 0) pa_nil)) (nomark _)) (pss_one (ps_ret (pe_ix ix_list (pv 0) (pv 1) (fun _ _ => rfl)))) pss_nil)
      (pss_one (ps_ret (pe_op op_add (pe_op op_mul pe_int (pv 1)) pe_int))), ?_⟩
    refine ⟨_, rfl, _, rfl, a, _, rfl, .inl hS, _, _, rfl, rfl, _, rfl, ?_⟩
    refine ite2 (fun h => ?_) (fun h => ?_)
    · have hl : k < ((ns.map V.int).length : Int) := of_decide_eq_true h
      rw [List.length_map] at hl
      obtain ⟨n, rfl⟩ : ∃ n : Nat, k = n := ⟨k.toNat, by omega⟩
      have hn : n < ns.length := by omega
      refine ⟨_, rfl, _, rfl, a, _, _, _, rfl, rfl, hS, atI_nat (v := .int ns[n]) (by simp [hn]), q _⟩
    · exact ⟨_, rfl, _, _, rfl, rfl, .inl ⟨by decide, by decide⟩, _, _, rfl, rfl, q _⟩
theorem scStream : FnScope ["_law_cell_here"] ["_law_cell_here"] (defScope sStream) := ⟨rfl, rfl, rfl, by decide +kernel, rfl, by decide +kernel, by decide +kernel⟩
theorem ok_stream {f : Addr} {fd : FuncData} (F : Fun K "_law_stream" "_law_stream" sStream f fd) (T : Bl mg) : FnOk P w K mg base CX0 1 f fd ["_law_cell_here"] spStream := by
  refine F.ok scStream (fun vs H Q E h => ?_) (fun cdv A outer s H vs Q E hr h => ?_)
  · obtain ⟨c, rfl, _⟩ := h
    rfl
  · obtain ⟨c, rfl, q⟩ := h
    refine ⟨_, pss_one (ps_ret (pe_lst (pa_cons (pe_op op_mul (pv 0) (pe_callTy call_int1 (by rfl) T.int PyProof.Rows.boot_int (pa_cons (pe_cmpR op_ge (pv 0) (pe_op op_pow pe_int pe_int) (nomark _)) pa_nil)))
      (pa_cons (pe_op op_mod (pv 0) pe_int) (pa_cons pe_int pa_nil))))), ?_⟩
    refine ⟨_, rfl, _, rfl, _, _, rfl, rfl, ⟨by decide, by decide, by decide⟩, _, _, rfl, rfl, .inr ⟨_, rfl, ?_⟩⟩
    refine ⟨_, _, rfl, rfl, .inr (by split <;> decide), _, rfl, _, _, rfl, rfl, (by show (0 : Int) < 2147483629; decide), (by show 3 ≤ sizeLine; decide), fun l hl => ?_⟩
    exact q l _ hl (same_new hl) ⟨_, _, _, upd_same⟩
theorem scTake : FnScope ["_law_stream_here", "_law_many", "_law_digit", "_law_number"] ["_law_stream_here", "_law_many"] (defScope sTake) := ⟨rfl, rfl, rfl, by decide +kernel, rfl, by decide +kernel, by decide +kernel⟩
theorem sq_bound {n m : Int} (hm : 0 < m) (h : m < 2 ^ 64) : -(2 ^ 64) < n % m ∧ n % m < 2 ^ 64 := by
  have := Int.emod_nonneg n (show m ≠ 0 by omega)
  have := Int.emod_lt_of_pos n hm
  omega
theorem ok_take {f : Addr} {fd : FuncData} (F : Fun K "_law_take" "_law_take" sTake f fd) : FnOk P w K mg base CX0 1 f fd ["_law_stream_here", "_law_many"] spTake := by
  refine F.ok scTake (fun vs H Q E h => ?_) (fun cdv A outer s H vs Q E hr h => ?_)
  · obtain ⟨p, m, rfl, _⟩ := h
    rfl
  · obtain ⟨p, m, rfl, ⟨x, y, z, hp⟩, m0, m1, q⟩ := h
    have fin : ∀ (e x' y' z' : Int) H1, 0 ≤ e → e < m → But p H H1 → Q (.int e) (upd H1 p (strm x' y' z')) := fun e x' y' z' H1 h0 h1 b => by
      have := q e.toNat (upd H1 p (strm x' y' z')) (by omega) ⟨_, _, _, upd_same⟩ (fun c o e n => by rw [upd_ne n]; exact b c o e n)
      rw [Int.toNat_of_nonneg h0] at this
      exact this
    have b1 : ∀ o, But p H (upd H p o) := fun o c u e n => by rw [upd_ne n]; exact e
    refine ⟨_, pss_cons (ps_if (pt_cmpR op_gt (pe_ix ix_list (pv 0) pe_int (fun _ _ => rfl)) pe_int (nomark _))
        (pss_cons (ps_set (i := 2) scTake.nd rfl (Or.inl rfl) (pe_op op_mod (pe_ix ix_list (pv 0) pe_int (fun _ _ => rfl)) (pv 1)))
        (pss_cons (ps_asg (pe_op op_fdivB (pe_ix ix_list (pv 0) pe_int (fun _ _ => rfl)) (pv 1)) (pg_sub (pv 0) pe_int set_list))
        (pss_one (ps_ret (pv 2))))) pss_nil)
      (pss_cons (ps_asg (pe_op op_add (pe_ix ix_list (pv 0) pe_int (fun _ _ => rfl)) pe_int) (pg_sub (pv 0) pe_int set_list))
      (pss_cons (ps_set (i := 3) scTake.nd rfl (Or.inl rfl) (pe_op op_mod (pe_op op_add (pe_op op_mul (pe_op op_add (pe_ix ix_list (pv 0) pe_int (fun _ _ => rfl)) (pe_op op_mul pe_int (pe_ix ix_list (pv 0) pe_int (fun _ _ => rfl)))) pe_int) pe_int) pe_int))
      (pss_cons (ps_set (i := 3) scTake.nd rfl (Or.inl rfl) (pe_op op_mod (pe_op op_mul (pv 3) (pv 3)) pe_int))
      (pss_one (ps_ret (pe_op op_mod (pe_op op_fdiv (pe_op op_mod (pe_op op_add (pe_op op_mul (pv 3) (pv 3)) (pe_op op_mul pe_int (pe_ix ix_list (pv 0) pe_int (fun _ _ => rfl)))) pe_int) pe_int) (pv 1))))))), ?_⟩
    refine ⟨_, rfl, p, _, _, _, rfl, rfl, SqL.of hp, rfl, _, _, rfl, rfl, _, rfl, ?_⟩
    refine ite2 (fun h => ?_) (fun h => ?_)
    · refine ⟨_, rfl, p, _, _, _, rfl, rfl, SqL.of hp, rfl, _, rfl, _, _, rfl, rfl, (by show (0 : Int) < (m : Int); omega), ?_⟩
      refine ⟨_, rfl, p, _, _, _, rfl, rfl, SqL.of hp, rfl, _, rfl, _, _, rfl, rfl, ⟨by show (0 : Int) < (m : Int); omega, by show (m : Int) < 18446744073709551616; omega⟩, ?_⟩
      refine ⟨_, rfl, p, _, _, _, rfl, rfl, hp, rfl, ?_⟩
      refine ⟨_, rfl, ?_⟩
      exact fin _ _ _ _ _ (Int.emod_nonneg _ (by omega)) (Int.emod_lt_of_pos _ (by omega)) (But.refl _ _)
    · refine ⟨_, rfl, p, _, _, _, rfl, rfl, SqL.of hp, rfl, _, _, rfl, rfl, ?_⟩
      refine ⟨_, rfl, p, _, _, _, rfl, rfl, hp, rfl, ?_⟩
      refine ⟨_, rfl, p, _, _, _, rfl, rfl, SqL.of upd_same, rfl, _, rfl, p, _, _, _, rfl, rfl, SqL.of upd_same, rfl, _, _, rfl, rfl, .inl ⟨by decide, by decide⟩, _, _, rfl, rfl, _, _, rfl, rfl, .inr ⟨by decide, by decide⟩, _, _, rfl, rfl, _, _, rfl, rfl, (by show (0 : Int) < 2147483647; decide), ?_⟩
      refine ⟨_, rfl, _, rfl, _, _, rfl, rfl, .inl (sq_bound (by decide) (by decide)), _, _, rfl, rfl, (by show (0 : Int) < 2147483629; decide), ?_⟩
      refine ⟨_, rfl, _, rfl, _, _, rfl, rfl, .inl (sq_bound (by decide) (by decide)), _, rfl, p, _, _, _, rfl, rfl, SqL.of upd_same, rfl, _, _, rfl, rfl, .inl ⟨by decide, by decide⟩, _, _, rfl, rfl, _, _, rfl, rfl, (by show (0 : Int) < 2147483587; decide), _, _, rfl, rfl, ⟨by decide, by decide⟩, _, rfl, _, _, rfl, rfl, (by show (0 : Int) < (m : Int); omega), ?_⟩
      exact fin _ _ _ _ _ (Int.emod_nonneg _ (by omega)) (Int.emod_lt_of_pos _ (by omega)) (But.refl _ _)
end
end L3
namespace L3
open PySem L2
def strsV (l : List Str) : List V := l.map V.str
def MthOk (P : Program) (w : World) (K : PySem.W.Frag) (mg : Str → Option Value) (base : Heap) (C : Addr) (nm : Str) (n : Nat) (ps : List Str) (sp : Sp) : Prop := ∃ f fd, Meth K C nm f ∧ FnOk P w K mg base CX0 n f fd ps sp ∧ Binds K fd ps []
def rdF (l : Addr) (k : Nat) (me : Bool) : List (Str × V) := [("tokens", .ref l), ("spot", .int k), ("may_end", .bl me)]
structure RdO (C : Addr) (H : Hp) (a l : Addr) (ts : List Str) (k : Nat) (me : Bool) : Prop where
  ob : ∃ dx, H a = some (.ins C dx (rdF l k me))
  tk : H l = some (.lst (strsV (ts ++ [("" : Str)])))
  le : ts.length ≤ 1500
def ButO (a : Addr) (H H' : Hp) : Prop := ∀ b o, H b = some o → b ≠ a → H' b = some o
theorem ButO.refl (p : Addr) (H : Hp) : ButO p H H := fun _ _ e _ => e
theorem ButO.trans {p : Addr} {H H1 H2 : Hp} (a : ButO p H H1) (b : ButO p H1 H2) : ButO p H H2 := fun c o e n => b c o (a c o e n) n
theorem ButO.same {p : Addr} {H H1 H2 : Hp} (a : ButO p H H1) (b : Same H1 H2) : ButO p H H2 := fun c o e n => b c o (a c o e n)
theorem buto_of {p : Addr} {H H1 : Hp} (b : Same H H1) : ButO p H H1 := fun c o e _ => b c o e
theorem RdO.same {C : Addr} {H H' : Hp} {a l : Addr} {ts : List Str} {k : Nat} {me : Bool} (h : RdO C H a l ts k me) (s : Same H H') : RdO C H' a l ts k me := ⟨let ⟨dx, e⟩ := h.ob; ⟨dx, s _ _ e⟩, s _ _ h.tk, h.le⟩
theorem RdO.ne {C : Addr} {H : Hp} {a l : Addr} {ts : List Str} {k : Nat} {me : Bool} (h : RdO C H a l ts k me) : l ≠ a := by
  rintro rfl
  obtain ⟨dx, e⟩ := h.ob
  rw [h.tk] at e
  cases e
structure Rc (K : PySem.W.Frag) (C : Addr) : Prop where
  cl : Cls K C
  n1 : NoAttr K C "tokens"
  n2 : NoAttr K C "spot"
  n3 : NoAttr K C "may_end"
def spLook (C : Addr) : Sp := fun vs H Q _ => ∃ a l ts k me z, vs = [.ref a] ∧ RdO C H a l ts k me ∧ (ts ++ [("" : Str)])[k]? = some z ∧ Q (.str z) H
def spTk (C : Addr) : Sp := fun vs H Q _ => ∃ a l ts k me z, vs = [.ref a] ∧ RdO C H a l ts k me ∧ (ts ++ [("" : Str)])[k]? = some z ∧ ∀ H', RdO C H' a l ts (k + 1) me → ButO a H H' → Q (.str z) H'
def spNeed (K : PySem.W.Frag) (C : Addr) : Sp := fun vs H Q _ => ∃ a l ts k me z p xs, vs = [.ref a, .ref p] ∧ RdO C H a l ts k me ∧ (ts ++ [("" : Str)])[k]? = some z ∧ (SqL K H p (strsV xs) ∨ SqT K H p (strsV xs)) ∧ z ∈ xs ∧ ∀ H', RdO C H' a l ts (k + 1) me → ButO a H H' → Q (.str z) H'
abbrev sLook : Stmt := inClass (top 56) 1
abbrev sTk : Stmt := inClass (top 56) 2
abbrev sNeed : Stmt := inClass (top 56) 3
theorem tok_at {ts : List Str} {k : Nat} {z : Str} (h : (ts ++ [("" : Str)])[k]? = some z) : (strsV (ts ++ [("" : Str)]))[k]? = some (.str z) := by unfold strsV; rw [List.getElem?_map, h]; rfl
theorem inV_strs (x : Str) (l : List Str) : inV (.str x) (strsV l) = l.contains x := by
  unfold inV strsV
  rw [List.any_map, Bool.eq_iff_iff, List.any_eq_true, List.contains_iff_mem]
  constructor
  · rintro ⟨y, hy, e⟩
    have : y = x := by simpa [eqV] using e
    rw [← this]
    exact hy
  · intro hx
    exact ⟨x, hx, by simp [eqV]⟩
theorem flat_strs (l : List Str) : (strsV l).all flatV = true := by
  unfold strsV
  rw [List.all_map, List.all_eq_true]
  intro x _
  rfl
section
variable {P : Program} {w : World} {K : PySem.W.Frag} {mg : Str → Option Value} {base : Heap} {C : Addr}
theorem scLook : FnScope ["self"] ["self"] (defScope sLook) := ⟨rfl, rfl, rfl, by decide +kernel, rfl, by decide +kernel, by decide +kernel⟩
theorem ok_look {f : Addr} {fd : FuncData} (F : Fun K "look" "Reader.look" sLook f fd) (T : Rc K C) : FnOk P w K mg base CX0 1 f fd ["self"] (spLook C) := by
  refine F.ok scLook (fun vs H Q E h => ?_) (fun cdv A outer s H vs Q E hr h => ?_)
  · obtain ⟨a, l, ts, k, me, z, rfl, _⟩ := h
    rfl
  · obtain ⟨a, l, ts, k, me, z, rfl, hR, hz, q⟩ := h
    refine ⟨_, pss_one (ps_ret (pe_ix ix_list (pe_fld (pv 0) rfl) (pe_fld (pv 0) rfl) (fun _ _ => rfl))), ?_⟩
    obtain ⟨dx, ho⟩ := hR.ob
    exact ⟨_, rfl, a, C, dx, _, _, rfl, ho, T.cl, T.n1, rfl, _, rfl, a, C, dx, _, _, rfl, ho, T.cl, T.n2, rfl, l, _, _, _, rfl, rfl, SqL.of hR.tk, atI_nat (tok_at hz), q⟩
theorem scTk : FnScope ["self"] ["self"] (defScope sTk) := ⟨rfl, rfl, rfl, by decide +kernel, rfl, by decide +kernel, by decide +kernel⟩
theorem ok_tk {f : Addr} {fd : FuncData} (F : Fun K "take" "Reader.take" sTk f fd) (T : Rc K C) : FnOk P w K mg base CX0 1 f fd ["self"] (spTk C) := by
  refine F.ok scTk (fun vs H Q E h => ?_) (fun cdv A outer s H vs Q E hr h => ?_)
  · obtain ⟨a, l, ts, k, me, z, rfl, _⟩ := h
    rfl
  · obtain ⟨a, l, ts, k, me, z, rfl, hR, hz, q⟩ := h
    refine ⟨_, pss_cons (ps_fldaug (pv 0) pe_int in_add) (pss_one (ps_ret (pe_ix ix_list (pe_fld (pv 0) rfl) (pe_op op_sub (pe_fld (pv 0) rfl) pe_int) (fun _ _ => rfl)))), ?_⟩
    obtain ⟨dx, ho⟩ := hR.ob
    refine ⟨_, rfl, a, C, dx, _, _, rfl, ho, T.cl, T.n2, rfl, _, _, rfl, rfl, dx, _, ho, (by show 3 < 1000; decide), ?_⟩
    have e1 : (upd H a (.ins C dx (putF "spot" (.int ((k : Int) + 1)) (rdF l k me)))) a = some (.ins C dx (rdF l (k + 1) me)) := by rw [upd_same]; rfl
    have e2 : (upd H a (.ins C dx (putF "spot" (.int ((k : Int) + 1)) (rdF l k me)))) l = some (.lst (strsV (ts ++ [("" : Str)]))) := by rw [upd_ne hR.ne]; exact hR.tk
    have b2 : ButO a H (upd H a (.ins C dx (putF "spot" (.int ((k : Int) + 1)) (rdF l k me)))) := fun b o e n => by rw [upd_ne n]; exact e
    generalize upd H a (.ins C dx (putF "spot" (.int ((k : Int) + 1)) (rdF l k me))) = H1 at *
    refine ⟨_, rfl, a, C, dx, _, _, rfl, e1, T.cl, T.n1, rfl, _, rfl, a, C, dx, _, _, rfl, e1, T.cl, T.n2, rfl, _, _, rfl, rfl, l, _, _, _, rfl, rfl, SqL.of e2, ?_, q _ ⟨⟨dx, e1⟩, e2, hR.le⟩ b2⟩
    have : (((k + 1 : Nat) : Int) - 1) = (k : Int) := by omega
    rw [this]
    exact atI_nat (tok_at hz)
structure Rm (P : Program) (w : World) (K : PySem.W.Frag) (mg : Str → Option Value) (base : Heap) (C : Addr) : Prop extends Rc K C where
  look : MthOk P w K mg base C "look" 1 ["self"] (spLook C)
  take : MthOk P w K mg base C "take" 1 ["self"] (spTk C)
theorem scNeed : FnScope ["self", "words"] ["self", "words"] (defScope sNeed) := ⟨rfl, rfl, rfl, by decide +kernel, rfl, by decide +kernel, by decide +kernel⟩
theorem ok_need {f : Addr} {fd : FuncData} (F : Fun K "need" "Reader.need" sNeed f fd) (T : Rm P w K mg base C) : FnOk P w K mg base CX0 2 f fd ["self", "words"] (spNeed K C) := by
  refine F.ok scNeed (fun vs H Q E h => ?_) (fun cdv A outer s H vs Q E hr h => ?_)
  · obtain ⟨a, l, ts, k, me, z, p, xs, rfl, _⟩ := h
    rfl
  · obtain ⟨a, l, ts, k, me, z, p, xs, rfl, hR, hz, hp, hm, q⟩ := h
    have hr1 : Room 1 _ := hr
    refine ⟨_, pss_cons (ps_if (pt_cmpR op_notIn_seq (pe_methD0 (pv 0)) (pv 1) rfl) (pss_one ps_never) pss_nil) (pss_one (ps_ret (pe_methD0 (pv 0)))), ?_⟩
    obtain ⟨dx, ho⟩ := hR.ob
    obtain ⟨f1, fd1, M1, F1, B1⟩ := T.look
    obtain ⟨f2, fd2, M2, F2, B2⟩ := T.take
    refine ⟨_, rfl, a, dx, C, f1, _, fd1, 1, ["self"], _, rfl, ho, rfl, T.cl, M1, F1, hr1, B1, a, l, ts, k, me, z, rfl, hR, hz, _, rfl, p, strsV xs, rfl, ?_, rfl, flat_strs _, _, rfl, iteB ?_ ?_⟩
    · exact hp
    · show (!inV (.str z) (strsV xs)) = false
      rw [inV_strs, List.contains_iff_mem.mpr hm]
      rfl
    · exact ⟨_, rfl, a, dx, C, f2, _, fd2, 1, ["self"], _, rfl, ho, rfl, T.cl, M2, F2, hr1, B2, a, l, ts, k, me, z, rfl, hR, hz, q⟩
end
end L3
namespace L3
open PySem L2
abbrev tz (ts : List Str) : List Str := ts ++ [("" : Str)]
def ownL : List Str := ["word", "cells", "depth", "places", "marks", "gate", "kind", "place", "mark", "number", "row", "set", "if", "else", "top", "next", "go", "call", "back", "stop", "fault", "bell"]
def NameS (z : Str) : Prop := z ∉ ownL ∧ 1 ≤ z.length ∧ z.length ≤ 8 ∧ ∀ c ∈ z.cps.toList, 97 ≤ c ∧ c ≤ 122
def spNm : Sp := fun vs H Q _ => ∃ z, vs = [.str z] ∧ NameS z ∧ ∀ H', Same H H' → Q (.bl true) H'
def spNumOf : Sp := fun vs H Q _ => ∃ n : Nat, vs = [.str (toString (n : Int) : Str)] ∧ n < 1000000000 ∧ ∀ H', Same H H' → Q (.int n) H'
def spWhole : Sp := fun vs H Q _ => ∃ i : Int, vs = [.int i] ∧ Q (.bl true) H
def spWithin : Sp := fun vs H Q _ => ∃ i lo hi : Int, vs = [.int i, .int lo, .int hi] ∧ lo ≤ i ∧ i ≤ hi ∧ Q (.bl true) H
def spNeedName (C : Addr) : Sp := fun vs H Q _ => ∃ a l ts k me z, vs = [.ref a] ∧ RdO C H a l ts k me ∧ (tz ts)[k]? = some z ∧ NameS z ∧ ∀ H', RdO C H' a l ts (k + 1) me → ButO a H H' → Q (.str z) H'
def spNeedNumber (C : Addr) : Sp := fun vs H Q _ => ∃ a l ts k me, ∃ n lo hi : Nat, vs = [.ref a, .int lo, .int hi] ∧ RdO C H a l ts k me ∧ (tz ts)[k]? = some (toString (n : Int) : Str) ∧ n < 1000000000 ∧ lo ≤ n ∧ n ≤ hi ∧ ∀ H', RdO C H' a l ts (k + 1) me → ButO a H H' → Q (.int n) H'
def spNeedEnd (C : Addr) : Sp := fun vs H Q _ => ∃ a l ts k, vs = [.ref a] ∧ RdO C H a l ts k true ∧ k = ts.length ∧ Q .non H
abbrev sNeedName : Stmt := inClass (top 56) 4
abbrev sNeedNumber : Stmt := inClass (top 56) 5
abbrev sNeedEnd : Stmt := inClass (top 56) 6
section
variable {P : Program} {w : World} {K : PySem.W.Frag} {mg : Str → Option Value} {base : Heap} {C : Addr}
theorem scWhole : FnScope ["thing"] ["thing"] (defScope sWhole) := ⟨rfl, rfl, rfl, by decide +kernel, rfl, by decide +kernel, by decide +kernel⟩
theorem ok_whole {f : Addr} {fd : FuncData} (F : Fun K "is_whole" "is_whole" sWhole f fd) (T : Bl mg) : FnOk P w K mg base CX0 1 f fd ["thing"] spWhole := by
  refine F.ok scWhole (fun vs H Q E h => ?_) (fun cdv A outer s H vs Q E hr h => ?_)
  · obtain ⟨i, rfl, _⟩ := h
    rfl
  · obtain ⟨i, rfl, q⟩ := h
    refine ⟨_, pss_one (ps_ret (pe_and (pe_callB (isi_ty (T := "int")) (by rfl) T.isinstance boot_isi (pa_cons (pv 0) (pa_cons (pe_ty (by rfl) T.int PyProof.Rows.boot_int) pa_nil))) (pe_one (pe_not (pe_callB (isi_ty (T := "bool")) (by rfl) T.isinstance boot_isi (pa_cons (pv 0) (pa_cons (pe_ty (by rfl) T.bool boot_bool') pa_nil))))))), ?_⟩
    exact ⟨_, rfl, _, _, _, rfl, .int _, rfl, _, rfl, iteT ⟨_, rfl, _, _, _, rfl, .int _, rfl, _, rfl, q⟩⟩
theorem scWithin : FnScope ["thing", "low", "high"] ["thing", "low", "high"] (defScope sWithin) := ⟨rfl, rfl, rfl, by decide +kernel, rfl, by decide +kernel, by decide +kernel⟩
theorem ok_within {f : Addr} {fd : FuncData} (F : Fun K "is_within" "is_within" sWithin f fd) (WH : Fn P w K mg base "is_whole" 1 ["thing"] spWhole) : FnOk P w K mg base CX0 2 f fd ["thing", "low", "high"] spWithin := by
  refine F.ok scWithin (fun vs H Q E h => ?_) (fun cdv A outer s H vs Q E hr h => ?_)
  · obtain ⟨i, lo, hi, rfl, _⟩ := h
    rfl
  · obtain ⟨i, lo, hi, rfl, h1, h2, q⟩ := h
    refine ⟨_, pss_one (ps_ret (pe_and (pe_fn WH hr rfl (pa_cons (pv 0) pa_nil)) (pe_one (pe_chain op_le op_le (pv 1) (pv 0) (pv 2))))), ?_⟩
    refine ⟨_, rfl, i, rfl, _, rfl, iteT ⟨_, rfl, _, rfl, _, _, rfl, rfl, _, rfl, iteA (decide_eq_true h1) ⟨_, rfl, _, _, rfl, rfl, ?_⟩⟩⟩
    show Q (V.bl (decide (i ≤ hi))) H
    rw [decide_eq_true h2]
    exact q
theorem scNeedName : FnScope ["self"] ["self"] (defScope sNeedName) := ⟨rfl, rfl, rfl, by decide +kernel, rfl, by decide +kernel, by decide +kernel⟩
theorem ok_needName {f : Addr} {fd : FuncData} (F : Fun K "need_name" "Reader.need_name" sNeedName f fd) (T : Rm P w K mg base C) (NM : Fn P w K mg base "is_name" 1 ["thing"] spNm) : FnOk P w K mg base CX0 2 f fd ["self"] (spNeedName C) := by
  refine F.ok scNeedName (fun vs H Q E h => ?_) (fun cdv A outer s H vs Q E hr h => ?_)
  · obtain ⟨a, l, ts, k, me, z, rfl, _⟩ := h
    rfl
  · obtain ⟨a, l, ts, k, me, z, rfl, hR, hz, hn, q⟩ := h
    have hr1 : Room 1 _ := hr
    refine ⟨_, pss_cons (ps_if (pt_not (pt_val (pe_fn NM hr1 rfl (pa_cons (pe_methD0 (pv 0)) pa_nil)))) (pss_one ps_never) pss_nil) (pss_one (ps_ret (pe_methD0 (pv 0)))), ?_⟩
    obtain ⟨dx, ho⟩ := hR.ob
    obtain ⟨f1, fd1, M1, F1, B1⟩ := T.look
    obtain ⟨f2, fd2, M2, F2, B2⟩ := T.take
    refine ⟨_, rfl, a, dx, C, f1, _, fd1, 1, ["self"], _, rfl, ho, rfl, T.cl, M1, F1, hr1, B1, a, l, ts, k, me, z, rfl, hR, hz, z, rfl, hn, fun H1 s1 => ⟨_, rfl, iteF ?_⟩⟩
    exact ⟨_, rfl, a, dx, C, f2, _, fd2, 1, ["self"], _, rfl, s1 _ _ ho, rfl, T.cl, M2, F2, hr1, B2, a, l, ts, k, me, z, rfl, hR.same s1, hz, fun H2 r2 b2 => q H2 r2 ((buto_of s1).trans b2)⟩
theorem scNeedNumber : FnScope ["self", "low", "high", "number"] ["self", "low", "high"] (defScope sNeedNumber) := ⟨rfl, rfl, rfl, by decide +kernel, rfl, by decide +kernel, by decide +kernel⟩
theorem ok_needNumber {f : Addr} {fd : FuncData} (F : Fun K "need_number" "Reader.need_number" sNeedNumber f fd) (T : Rm P w K mg base C) (NU : Fn P w K mg base "number_of" 1 ["token"] spNumOf) (WI : Fn P w K mg base "is_within" 2 ["thing", "low", "high"] spWithin) : FnOk P w K mg base CX0 3 f fd ["self", "low", "high"] (spNeedNumber C) := by
  refine F.ok scNeedNumber (fun vs H Q E h => ?_) (fun cdv A outer s H vs Q E hr h => ?_)
  · obtain ⟨a, l, ts, k, me, n, lo, hi, rfl, _⟩ := h
    rfl
  · obtain ⟨a, l, ts, k, me, n, lo, hi, rfl, hR, hz, hn, h1, h2, q⟩ := h
    have hr1 : Room 1 _ := hr.mono (by decide)
    refine ⟨_, pss_cons (ps_set (i := 3) scNeedNumber.nd rfl (Or.inl rfl) (pe_fn NU hr1 rfl (pa_cons (pe_methD0 (pv 0)) pa_nil)))
      (pss_cons (ps_if (pt_not (pt_val (pe_fn WI hr rfl (pa_cons (pv 3) (pa_cons (pv 1) (pa_cons (pv 2) pa_nil)))))) (pss_one ps_never) pss_nil)
      (pss_cons (ps_fldaug (pv 0) pe_int in_add) (pss_one (ps_ret (pv 3))))), ?_⟩
    obtain ⟨dx, ho⟩ := hR.ob
    obtain ⟨f1, fd1, M1, F1, B1⟩ := T.look
    refine ⟨_, rfl, a, dx, C, f1, _, fd1, 1, ["self"], _, rfl, ho, rfl, T.cl, M1, F1, hr1, B1, a, l, ts, k, me, _, rfl, hR, hz, n, rfl, hn, fun H1 s1 => ?_⟩
    refine ⟨_, rfl, _, rfl, _, rfl, (n : Int), (lo : Int), (hi : Int), rfl, by omega, by omega, _, rfl, iteF ?_⟩
    have hR1 := hR.same s1
    have ho1 := s1 _ _ ho
    refine ⟨_, rfl, a, C, dx, _, _, rfl, ho1, T.cl, T.n2, rfl, _, _, rfl, rfl, dx, _, ho1, (by show 3 < 1000; decide), ?_⟩
    have e1 : (upd H1 a (.ins C dx (putF "spot" (.int ((k : Int) + 1)) (rdF l k me)))) a = some (.ins C dx (rdF l (k + 1) me)) := by rw [upd_same]; rfl
    have e2 : (upd H1 a (.ins C dx (putF "spot" (.int ((k : Int) + 1)) (rdF l k me)))) l = some (.lst (strsV (ts ++ [("" : Str)]))) := by rw [upd_ne hR.ne]; exact hR1.tk
    exact ⟨_, rfl, q _ ⟨⟨dx, e1⟩, e2, hR.le⟩ (fun b o e n => by rw [upd_ne n]; exact s1 _ _ e)⟩
theorem scNeedEnd : FnScope ["self"] ["self"] (defScope sNeedEnd) := ⟨rfl, rfl, rfl, by decide +kernel, rfl, by decide +kernel, by decide +kernel⟩
theorem ok_needEnd {f : Addr} {fd : FuncData} (F : Fun K "need_end" "Reader.need_end" sNeedEnd f fd) (T : Rm P w K mg base C) (B : Bl mg) : FnOk P w K mg base CX0 1 f fd ["self"] (spNeedEnd C) := by
  refine F.ok scNeedEnd (fun vs H Q E h => ?_) (fun cdv A outer s H vs Q E hr h => ?_)
  · obtain ⟨a, l, ts, k, rfl, _⟩ := h
    rfl
  · obtain ⟨a, l, ts, k, rfl, hR, hk, q⟩ := h
    refine ⟨_, pss_one (ps_if (PW.pt (pw_or (pt_not (pt_val (pe_fld (pv 0) rfl))) (pw_or1 (pt_cmpR op_lt (pe_op op_add (pe_fld (pv 0) rfl) pe_int) (pe_callB call_len_seq (by rfl) B.len PySem.boot_len (pa_cons (pe_fld (pv 0) rfl) pa_nil)) (nomark _))))) (pss_one ps_never) pss_nil), ?_⟩
    obtain ⟨dx, ho⟩ := hR.ob
    refine ⟨_, rfl, a, C, dx, _, _, rfl, ho, T.cl, T.n3, rfl, _, rfl, iteF ?_⟩
    refine ⟨_, rfl, a, C, dx, _, _, rfl, ho, T.cl, T.n2, rfl, _, _, rfl, rfl, _, rfl, a, C, dx, _, _, rfl, ho, T.cl, T.n1, rfl, l, _, rfl, .inl (SqL.of hR.tk), _, _, rfl, rfl, _, rfl, iteB (decide_eq_false ?_) q⟩
    unfold strsV
    rw [List.length_map, List.length_append]
    simp
    omega
end
end L3
namespace L3
open PySem L2
structure Rm2 (P : Program) (w : World) (K : PySem.W.Frag) (mg : Str → Option Value) (base : Heap) (C : Addr) : Prop extends Rm P w K mg base C where
  need : MthOk P w K mg base C "need" 2 ["self", "words"] (spNeed K C)
  nname : MthOk P w K mg base C "need_name" 2 ["self"] (spNeedName C)
  nnum : MthOk P w K mg base C "need_number" 3 ["self", "low", "high"] (spNeedNumber C)
  nend : MthOk P w K mg base C "need_end" 1 ["self"] (spNeedEnd C)
theorem RdO.up {C : Addr} {H H' : Hp} {a l : Addr} {ts : List Str} {k : Nat} {me : Bool} (h : RdO C H a l ts k me) (b : Same H H') : RdO C H' a l ts k me := h.same b
def spBounded (C : Addr) : Sp := fun vs H Q _ => ∃ a l ts k me wd, ∃ n lo hi : Nat, vs = [.ref a, .str wd, .int lo, .int hi] ∧ RdO C H a l ts k me ∧ (tz ts)[k]? = some wd ∧ (tz ts)[k + 1]? = some (toString (n : Int) : Str) ∧ (tz ts)[k + 2]? = some ";" ∧ n < 1000000000 ∧ lo ≤ n ∧ n ≤ hi ∧ ∀ H', RdO C H' a l ts (k + 3) me → ButO a H H' → Q (.int n) H'
def NmsAt (ts : List Str) (k : Nat) (zs : List Str) : Prop := ∀ i (h : i < zs.length), (tz ts)[k + i]? = some zs[i] ∧ NameS zs[i]
def spNames (C : Addr) : Sp := fun vs H Q _ => ∃ a l ts k me wd zs, ∃ lo hi : Nat, vs = [.ref a, .str wd, .int lo, .int hi] ∧ RdO C H a l ts k me ∧ (tz ts)[k]? = some wd ∧ NmsAt ts (k + 1) zs ∧ (tz ts)[k + 1 + zs.length]? = some ";" ∧ lo ≤ zs.length ∧ zs.length ≤ hi ∧ hi ≤ 10 ∧
  ∀ p H', RdO C H' a l ts (k + 2 + zs.length) me → ButO a H H' → H p = none → H' p = some (.tup (strsV zs)) → Q (.ref p) H'
section
variable {P : Program} {w : World} {K : PySem.W.Frag} {mg : Str → Option Value} {base : Heap} {C : Addr}
theorem scBounded : FnScope ["reader", "word", "low", "high", "number"] ["reader", "word", "low", "high"] (defScope sReadBounded) := ⟨rfl, rfl, rfl, by decide +kernel, rfl, by decide +kernel, by decide +kernel⟩
set_option maxHeartbeats 1000000 in
theorem ok_bounded {f : Addr} {fd : FuncData} (F : Fun K "read_bounded" "read_bounded" sReadBounded f fd) (T : Rm2 P w K mg base C) : FnOk P w K mg base CX0 4 f fd ["reader", "word", "low", "high"] (spBounded C) := by
  refine F.ok scBounded (fun vs H Q E h => ?_) (fun cdv A outer s H vs Q E hr h => ?_)
  · obtain ⟨a, l, ts, k, me, wd, n, lo, hi, rfl, _⟩ := h
    rfl
  · obtain ⟨a, l, ts, k, me, wd, n, lo, hi, rfl, hR, t0, t1, t2, hn, h1, h2, q⟩ := h
    have hr2 : Room 2 _ := hr.mono (by decide)
    refine ⟨_, pss_cons (ps_expr (pe_methD (pv 0) (pa_cons (pe_tup (pa_cons (pv 1) pa_nil)) pa_nil)))
      (pss_cons (ps_set (i := 4) scBounded.nd rfl (Or.inl rfl) (pe_methD (pv 0) (pa_cons (pv 2) (pa_cons (pv 3) pa_nil))))
      (pss_cons (ps_expr (pe_methD (pv 0) (pa_cons (pe_tup (pa_cons pe_str pa_nil)) pa_nil)))
      (pss_one (ps_ret (pv 4))))), ?_⟩
    obtain ⟨f1, fd1, M1, F1, B1⟩ := T.need
    obtain ⟨f2, fd2, M2, F2, B2⟩ := T.nnum
    obtain ⟨dx, ho⟩ := hR.ob
    refine ⟨_, rfl, a, dx, C, f1, _, fd1, 2, ["self", "words"], _, rfl, ho, rfl, T.cl, M1, F1, hr2, B1, _, rfl, (by show 1 ≤ sizeLine; decide), fun p1 n1 => ?_⟩
    have s1 := same_new (o := .tup [.str wd]) n1
    refine ⟨a, l, ts, k, me, wd, p1, [wd], rfl, hR.same s1, t0, (.inr (SqT.of upd_same)), by simp, fun H1 r1 b1 => ?_⟩
    obtain ⟨dx1, ho1⟩ := r1.ob
    refine ⟨_, rfl, a, dx1, C, f2, _, fd2, 3, ["self", "low", "high"], _, rfl, ho1, rfl, T.cl, M2, F2, hr, B2, _, rfl, _, rfl, a, l, ts, k + 1, me, n, lo, hi, rfl, r1, t1, hn, h1, h2, fun H2 r2 b2 => ?_⟩
    obtain ⟨dx2, ho2⟩ := r2.ob
    refine ⟨_, rfl, a, dx2, C, f1, _, fd1, 2, ["self", "words"], _, rfl, ho2, rfl, T.cl, M1, F1, hr2, B1, (by show 1 ≤ sizeLine; decide), fun p2 n2 => ?_⟩
    have s2 := same_new (o := .tup [.str ";"]) n2
    refine ⟨a, l, ts, k + 2, me, ";", p2, [";"], rfl, r2.same s2, t2, (.inr (SqT.of upd_same)), by simp, fun H3 r3 b3 => ?_⟩
    exact ⟨_, rfl, q H3 r3 (((buto_of s1).trans (b1.trans b2)).trans ((buto_of s2).trans b3))⟩
theorem scNames : FnScope ["reader", "word", "least", "most", "names"] ["reader", "word", "least", "most"] (defScope sReadNames) := ⟨rfl, rfl, rfl, by decide +kernel, rfl, by decide +kernel, by decide +kernel⟩
set_option maxHeartbeats 2000000 in
theorem ok_names {f : Addr} {fd : FuncData} (F : Fun K "read_names" "read_names" sReadNames f fd) (T : Rm2 P w K mg base C) (B : Bl mg) : FnOk P w K mg base CX0 3 f fd ["reader", "word", "least", "most"] (spNames C) := by
  refine F.ok scNames (fun vs H Q E h => ?_) (fun cdv A outer s H vs Q E hr h => ?_)
  · obtain ⟨a, l, ts, k, me, wd, zs, lo, hi, rfl, _⟩ := h
    rfl
  · obtain ⟨a, l, ts, k, me, wd, zs, lo, hi, rfl, hR, t0, tn, te, h1, h2, h10, q⟩ := h
    have hr1 : Room 1 _ := hr.mono (by decide)
    refine ⟨_, pss_cons (ps_expr (pe_methD (pv 0) (pa_cons (pe_tup (pa_cons (pv 1) pa_nil)) pa_nil)))
      (pss_cons (ps_set (i := 4) scNames.nd rfl (Or.inl rfl) (pe_lst pa_nil))
      (pss_cons (ps_while PassesOwn.never (PW.pt (pw_or (pt_cmpR op_lt (pe_callB call_len_seq (by rfl) B.len PySem.boot_len (pa_cons (pv 4) pa_nil)) (pv 2) (nomark _)) (pw_or1 (PW.pt (pw_and (pt_cmpR op_lt (pe_callB call_len_seq (by rfl) B.len PySem.boot_len (pa_cons (pv 4) pa_nil)) (pv 3) (nomark _)) (pw_and1 (pt_cmpR op_ne (pe_methD0 (pv 0)) pe_str (nomark _))))))))
        (pss_one (ps_expr (pe_bm PySem.F.plainAttrs_list PySem.F.slot_list_append PySem.F.type_list_append mt_append (pv 4) (pa_cons (pe_methD0 (pv 0)) pa_nil)))))
      (pss_cons (ps_expr (pe_methD (pv 0) (pa_cons (pe_tup (pa_cons pe_str pa_nil)) pa_nil)))
      (pss_one (ps_ret (pe_callTy call_tuple_of (by rfl) B.tuple boot_tuple' (pa_cons (pv 4) pa_nil))))))), ?_⟩
    obtain ⟨f1, fd1, M1, F1, B1⟩ := T.need
    obtain ⟨f2, fd2, M2, F2, B2⟩ := T.nname
    obtain ⟨f3, fd3, M3, F3, B3⟩ := T.look
    obtain ⟨dx, ho⟩ := hR.ob
    have sz : (1000 : Nat) ≤ sizeLine := by decide
    refine ⟨_, rfl, a, dx, C, f1, _, fd1, 2, ["self", "words"], _, rfl, ho, rfl, T.cl, M1, F1, hr, B1, _, rfl, (by show 1 ≤ sizeLine; decide), fun p1 n1 => ?_⟩
    have s1 := same_new (o := .tup [.str wd]) n1
    refine ⟨a, l, ts, k, me, wd, p1, [wd], rfl, hR.same s1, t0, (.inr (SqT.of upd_same)), by simp, fun H1 r1 b1 => ?_⟩
    have c1 : ButO a H H1 := (buto_of s1).trans b1
    refine ⟨(by show 0 ≤ sizeLine; decide), fun ln nn => ?_⟩
    have s2 := same_new (o := .lst []) nn
    have e2 : (upd H1 ln (.lst [])) ln = some (.lst (strsV [])) := upd_same
    have r2 := r1.same s2
    have c2 := c1.same s2
    have nH : H ln = none := by
      by_cases hh : ln = a
      · subst hh
        obtain ⟨dx1, ho1⟩ := r1.ob
        rw [ho1] at nn
        cases nn
      · cases hx : H ln with
        | none => rfl
        | some o =>
          have := c1 _ _ hx hh
          rw [nn] at this
          cases this
    have lna : ln ≠ a := by
      rintro rfl
      rw [nH] at ho
      cases ho
    have lnl : ln ≠ l := fun z => by
      have := hR.tk
      rw [← z, nH] at this
      cases this
    generalize upd H1 ln (.lst ([] : List V)) = H2 at *
    refine ⟨fun m σ H' => ∃ i, i ≤ zs.length ∧ m = zs.length - i ∧ σ = [some (.ref a), some (.str wd), some (.int lo), some (.int hi), some (.ref ln)] ∧ RdO C H' a l ts (k + 1 + i) me ∧ ButO a H H' ∧ H' ln = some (.lst (strsV (zs.take i))), ⟨_, 0, Nat.zero_le _, rfl, rfl, r2, c2, e2⟩, ?_⟩
    rintro m σ H3 ⟨i, hi3, rfl, rfl, r3, c3, e3⟩
    have lt : (strsV (zs.take i)).length = i := by
      unfold strsV
      rw [List.length_map, List.length_take]
      omega
    obtain ⟨dx3, ho3⟩ := r3.ob
    by_cases hlt : i < zs.length
    · obtain ⟨tz1, nm1⟩ := tn i hlt
      have tk1 : zs.take (i + 1) = zs.take i ++ [zs[i]] := by rw [List.take_succ, List.getElem?_eq_getElem hlt]; rfl
      have nsc : zs[i] ≠ (";" : Str) := by
        intro z
        obtain ⟨_, _, _, hc⟩ := nm1
        rw [z] at hc
        exact absurd (hc 59 (by decide +kernel)) (by omega)
      by_cases hlo : i < lo
      · refine ⟨_, rfl, ln, _, rfl, .inl (SqL.of e3), _, rfl, _, _, rfl, rfl, _, rfl, iteA (decide_eq_true (by rw [lt]; omega)) ?_⟩
        refine ⟨fun σ' H' => ∃ i', i' = i + 1 ∧ σ' = [some (.ref a), some (.str wd), some (.int lo), some (.int hi), some (.ref ln)] ∧ RdO C H' a l ts (k + 1 + i') me ∧ ButO a H H' ∧ H' ln = some (.lst (strsV (zs.take i'))), fun σ' H' ⟨i', e', a1, a2, a3, a4⟩ => ⟨zs.length - i', by omega, i', by omega, rfl, a1, a2, a3, a4⟩, ?_⟩
        refine ⟨_, rfl, .inl ⟨rfl, _, SqL.of e3⟩, _, rfl, a, dx3, C, f2, _, fd2, 2, ["self"], _, rfl, ho3, rfl, T.cl, M2, F2, hr, B2, a, l, ts, k + 1 + i, me, zs[i], rfl, r3, tz1, nm1, fun H4 r4 b4 => ?_⟩
        have e4 := b4 _ _ e3 lna
        refine ⟨ln, _, _, rfl, rfl, e4, by rw [lt]; omega, i + 1, rfl, rfl, ?_, ?_, ?_⟩
        · refine ⟨?_, ?_, r4.le⟩
          · obtain ⟨dx4, ho4⟩ := r4.ob
            exact ⟨dx4, by rw [upd_ne lna.symm]; exact ho4⟩
          · rw [upd_ne lnl.symm]
            exact r4.tk
        · intro b o e nb
          by_cases hbl : b = ln
          · rw [hbl, nH] at e
            cases e
          · rw [upd_ne hbl]
            exact b4 _ _ (c3 _ _ e nb) nb
        · rw [upd_same, tk1]
          unfold strsV
          rw [List.map_append]
          rfl
      · refine ⟨_, rfl, ln, _, rfl, .inl (SqL.of e3), _, rfl, _, _, rfl, rfl, _, rfl, iteB (decide_eq_false (by rw [lt]; omega)) ?_⟩
        refine ⟨_, rfl, ln, _, rfl, .inl (SqL.of e3), _, rfl, _, _, rfl, rfl, _, rfl, iteA (decide_eq_true (by rw [lt]; omega)) ?_⟩
        refine ⟨_, rfl, a, dx3, C, f3, _, fd3, 1, ["self"], _, rfl, ho3, rfl, T.cl, M3, F3, hr1, B3, a, l, ts, k + 1 + i, me, zs[i], rfl, r3, tz1, rfl, _, rfl, iteA (by simpa using nsc) ?_⟩
        refine ⟨fun σ' H' => ∃ i', i' = i + 1 ∧ σ' = [some (.ref a), some (.str wd), some (.int lo), some (.int hi), some (.ref ln)] ∧ RdO C H' a l ts (k + 1 + i') me ∧ ButO a H H' ∧ H' ln = some (.lst (strsV (zs.take i'))), fun σ' H' ⟨i', e', a1, a2, a3, a4⟩ => ⟨zs.length - i', by omega, i', by omega, rfl, a1, a2, a3, a4⟩, ?_⟩
        refine ⟨_, rfl, .inl ⟨rfl, _, SqL.of e3⟩, _, rfl, a, dx3, C, f2, _, fd2, 2, ["self"], _, rfl, ho3, rfl, T.cl, M2, F2, hr, B2, a, l, ts, k + 1 + i, me, zs[i], rfl, r3, tz1, nm1, fun H4 r4 b4 => ?_⟩
        have e4 := b4 _ _ e3 lna
        refine ⟨ln, _, _, rfl, rfl, e4, by rw [lt]; omega, i + 1, rfl, rfl, ?_, ?_, ?_⟩
        · refine ⟨?_, ?_, r4.le⟩
          · obtain ⟨dx4, ho4⟩ := r4.ob
            exact ⟨dx4, by rw [upd_ne lna.symm]; exact ho4⟩
          · rw [upd_ne lnl.symm]
            exact r4.tk
        · intro b o e nb
          by_cases hbl : b = ln
          · rw [hbl, nH] at e
            cases e
          · rw [upd_ne hbl]
            exact b4 _ _ (c3 _ _ e nb) nb
        · rw [upd_same, tk1]
          unfold strsV
          rw [List.map_append]
          rfl
    · have hie : i = zs.length := by omega
      have te' : (tz ts)[k + 1 + i]? = some ";" := by rw [hie]; exact te
      have ztk : strsV (zs.take i) = strsV zs := by rw [hie, List.take_length]
      by_cases hhi : i < hi
      · refine ⟨_, rfl, ln, _, rfl, .inl (SqL.of e3), _, rfl, _, _, rfl, rfl, _, rfl, iteB (decide_eq_false (by rw [lt]; omega)) ?_⟩
        refine ⟨_, rfl, ln, _, rfl, .inl (SqL.of e3), _, rfl, _, _, rfl, rfl, _, rfl, iteA (decide_eq_true (by rw [lt]; omega)) ?_⟩
        refine ⟨_, rfl, a, dx3, C, f3, _, fd3, 1, ["self"], _, rfl, ho3, rfl, T.cl, M3, F3, hr1, B3, a, l, ts, k + 1 + i, me, ";", rfl, r3, te', rfl, _, rfl, iteB (by simp) ?_⟩
        refine ⟨_, rfl, a, dx3, C, f1, _, fd1, 2, ["self", "words"], _, rfl, ho3, rfl, T.cl, M1, F1, hr, B1, (by show 1 ≤ sizeLine; decide), fun p2 n2 => ?_⟩
        have s4 := same_new (o := .tup [.str ";"]) n2
        refine ⟨a, l, ts, k + 1 + i, me, ";", p2, [";"], rfl, r3.same s4, te', (.inr (SqT.of upd_same)), by simp, fun H4 r4 b4 => ?_⟩
        have e4 := b4 _ _ (s4 _ _ e3) lna
        rw [ztk] at e4
        refine ⟨_, rfl, ln, strsV zs, rfl, .inl ⟨SqL.of e4, fun p3 n3 => ?_⟩⟩
        have s5 := same_new (o := .tup (strsV zs)) n3
        have c4 : ButO a H H4 := (c3.same s4).trans b4
        refine q p3 _ ?_ (c4.same s5) ?_ upd_same
        · have := r4.same s5
          rw [hie] at this
          have e9 : k + 1 + zs.length + 1 = k + 2 + zs.length := by omega
          rw [e9] at this
          exact this
        · by_cases h3a : p3 = a
          · subst h3a
            obtain ⟨dx4, ho4⟩ := r4.ob
            rw [ho4] at n3
            cases n3
          · cases hx : H p3 with
            | none => rfl
            | some o =>
              have := c4 _ _ hx h3a
              rw [n3] at this
              cases this
      · refine ⟨_, rfl, ln, _, rfl, .inl (SqL.of e3), _, rfl, _, _, rfl, rfl, _, rfl, iteB (decide_eq_false (by rw [lt]; omega)) ?_⟩
        refine ⟨_, rfl, ln, _, rfl, .inl (SqL.of e3), _, rfl, _, _, rfl, rfl, _, rfl, iteB (decide_eq_false (by rw [lt]; omega)) ?_⟩
        refine ⟨_, rfl, a, dx3, C, f1, _, fd1, 2, ["self", "words"], _, rfl, ho3, rfl, T.cl, M1, F1, hr, B1, (by show 1 ≤ sizeLine; decide), fun p2 n2 => ?_⟩
        have s4 := same_new (o := .tup [.str ";"]) n2
        refine ⟨a, l, ts, k + 1 + i, me, ";", p2, [";"], rfl, r3.same s4, te', (.inr (SqT.of upd_same)), by simp, fun H4 r4 b4 => ?_⟩
        have e4 := b4 _ _ (s4 _ _ e3) lna
        rw [ztk] at e4
        refine ⟨_, rfl, ln, strsV zs, rfl, .inl ⟨SqL.of e4, fun p3 n3 => ?_⟩⟩
        have s5 := same_new (o := .tup (strsV zs)) n3
        have c4 : ButO a H H4 := (c3.same s4).trans b4
        refine q p3 _ ?_ (c4.same s5) ?_ upd_same
        · have := r4.same s5
          rw [hie] at this
          have e9 : k + 1 + zs.length + 1 = k + 2 + zs.length := by omega
          rw [e9] at this
          exact this
        · by_cases h3a : p3 = a
          · subst h3a
            obtain ⟨dx4, ho4⟩ := r4.ob
            rw [ho4] at n3
            cases n3
          · cases hx : H p3 with
            | none => rfl
            | some o =>
              have := c4 _ _ hx h3a
              rw [n3] at this
              cases this
end
end L3
namespace L3
open PySem L2
def sortL : List Str := ["place", "mark", "number", "row"]
structure TopT (K : PySem.W.Frag) (mg : Str → Option Value) (aS aE aF : Addr) (t1 t2 t3 t4 : Tok) : Prop where
  sorts : mg "SORTS" = some (.ref aS)
  sortsq : ∀ H, SqT K H aS (strsV sortL)
  ends : mg "ENDS" = some (.ref aE)
  endsq : ∀ H, SqT K H aE (strsV ["next", "go", "call", "back", "stop", "fault"])
  owf : mg "OWN_FAULTS" = some (.ref aF)
  owfq : ∀ H, SqT K H aF (strsV ["deep", "bare"])
  mf : mg "MOST_FIELDS" = some (.int 3 t1)
  ms : mg "MOST_SETS" = some (.int 4 t2)
  mc : mg "MOST_CHOICES" = some (.int 3 t3)
  mkn : mg "MOST_KINDS" = some (.int 8 t4)
def FldV (H : Hp) (u : V) (x : Str × Str) : Prop := ∃ p, u = .ref p ∧ H p = some (.tup [.str x.1, .str x.2])
def spField (C : Addr) : Sp := fun vs H Q _ => ∃ a l ts k me, ∃ x : Str × Str, vs = [.ref a] ∧ RdO C H a l ts k me ∧ (tz ts)[k]? = some x.1 ∧ NameS x.1 ∧ (tz ts)[k + 1]? = some x.2 ∧ x.2 ∈ sortL ∧ ∀ p H', RdO C H' a l ts (k + 2) me → ButO a H H' → H p = none → H' p = some (.tup [.str x.1, .str x.2]) → Q (.ref p) H'
section
variable {P : Program} {w : World} {K : PySem.W.Frag} {mg : Str → Option Value} {base : Heap} {C : Addr} {aS aE aF : Addr} {t1 t2 t3 t4 : Tok}
theorem free_of {a : Addr} {H H' : Hp} {p dx : Addr} {fs : List (Str × V)} (b : ButO a H H') (ho : H' a = some (.ins C dx fs)) (n : H' p = none) : H p = none := by
  by_cases h : p = a
  · subst h
    rw [ho] at n
    cases n
  · cases hx : H p with
    | none => rfl
    | some o =>
      have := b _ _ hx h
      rw [n] at this
      cases this
theorem scField : FnScope ["reader", "name"] ["reader"] (defScope sReadField) := ⟨rfl, rfl, rfl, by decide +kernel, rfl, by decide +kernel, by decide +kernel⟩
theorem ok_field {f : Addr} {fd : FuncData} (F : Fun K "read_field" "read_field" sReadField f fd) (T : Rm2 P w K mg base C) (Z : TopT K mg aS aE aF t1 t2 t3 t4) : FnOk P w K mg base CX0 3 f fd ["reader"] (spField C) := by
  refine F.ok scField (fun vs H Q E h => ?_) (fun cdv A outer s H vs Q E hr h => ?_)
  · obtain ⟨a, l, ts, k, me, x, rfl, _⟩ := h
    rfl
  · obtain ⟨a, l, ts, k, me, x, rfl, hR, h0, hn, h1, hs, q⟩ := h
    refine ⟨_, pss_cons (ps_set (i := 1) scField.nd rfl (Or.inl rfl) (pe_methD0 (pv 0))) (pss_one (ps_ret (pe_tup (pa_cons (pv 1) (pa_cons (pe_methD (pv 0) (pa_cons (pe_glob (v := .ref aS) rfl Z.sorts rfl) pa_nil)) pa_nil))))), ?_⟩
    obtain ⟨f1, fd1, M1, F1, B1⟩ := T.need
    obtain ⟨f2, fd2, M2, F2, B2⟩ := T.nname
    obtain ⟨dx, ho⟩ := hR.ob
    refine ⟨_, rfl, a, dx, C, f2, _, fd2, 2, ["self"], _, rfl, ho, rfl, T.cl, M2, F2, hr, B2, a, l, ts, k, me, x.1, rfl, hR, h0, hn, fun H1 r1 b1 => ?_⟩
    obtain ⟨dx1, ho1⟩ := r1.ob
    refine ⟨_, rfl, _, rfl, a, dx1, C, f1, _, fd1, 2, ["self", "words"], _, rfl, ho1, rfl, T.cl, M1, F1, hr, B1, a, l, ts, k + 1, me, x.2, aS, sortL, rfl, r1, h1, .inr (Z.sortsq _), hs, fun H2 r2 b2 => ?_⟩
    obtain ⟨dx2, ho2⟩ := r2.ob
    refine ⟨(by show 2 ≤ sizeLine; decide), fun p np => ?_⟩
    have s3 := same_new (o := .tup [.str x.1, .str x.2]) np
    exact q p _ (r2.same s3) ((b1.trans b2).same s3) (free_of (b1.trans b2) ho2 np) upd_same
def NextV (H : Hp) (u : V) : Prop := ∃ p, u = .ref p ∧ H p = some (.tup [.str "next"])
def LeafV (H : Hp) (u : V) : Prop := ∃ p t e, u = .ref p ∧ H p = some (.tup [.str "leaf", .ref t, e]) ∧ H t = some (.tup []) ∧ NextV H e
def spEnd (C : Addr) : Sp := fun vs H Q _ => ∃ a l ts k me, vs = [.ref a] ∧ RdO C H a l ts k me ∧ (tz ts)[k]? = some "next" ∧ ∀ p H', RdO C H' a l ts (k + 1) me → ButO a H H' → H p = none → H' p = some (.tup [.str "next"]) → Q (.ref p) H'
theorem scEnd : FnScope ["reader", "end"] ["reader"] (defScope sReadEnd) := ⟨rfl, rfl, rfl, by decide +kernel, rfl, by decide +kernel, by decide +kernel⟩
set_option maxHeartbeats 1000000 in
theorem ok_end {f : Addr} {fd : FuncData} (F : Fun K "read_end" "read_end" sReadEnd f fd) (T : Rm2 P w K mg base C) (Z : TopT K mg aS aE aF t1 t2 t3 t4) : FnOk P w K mg base CX0 3 f fd ["reader"] (spEnd C) := by
  refine F.ok scEnd (fun vs H Q E h => ?_) (fun cdv A outer s H vs Q E hr h => ?_)
  · obtain ⟨a, l, ts, k, me, rfl, _⟩ := h
    rfl
  · obtain ⟨a, l, ts, k, me, rfl, hR, h0, q⟩ := h
    have hr1 : Room 1 _ := hr.mono (by decide)
    refine ⟨_, pss_cons (ps_set (i := 1) scEnd.nd rfl (Or.inl rfl) (pe_methD (pv 0) (pa_cons (pe_glob (v := .ref aE) rfl Z.ends rfl) pa_nil)))
      (pss_cons (ps_if (PW.pt (pw_and (pt_cmpR op_eq (pv 1) pe_str (nomark _)) (pw_and1 (pt_cmpR op_in_seq (pe_methD0 (pv 0)) (pe_glob (v := .ref aF) rfl Z.owf rfl) rfl)))) (pss_one ps_never) pss_nil)
      (pss_cons (ps_if (pt_cmpR op_in_seq (pv 1) (pe_tup (pa_cons pe_str (pa_cons pe_str (pa_cons pe_str pa_nil)))) rfl) (pss_one (ps_ret (pe_tup (pa_cons (pv 1) (pa_cons (pe_methD0 (pv 0)) pa_nil))))) pss_nil)
      (pss_one (ps_ret (pe_tup (pa_cons (pv 1) pa_nil)))))), ?_⟩
    obtain ⟨f1, fd1, M1, F1, B1⟩ := T.need
    obtain ⟨dx, ho⟩ := hR.ob
    refine ⟨_, rfl, a, dx, C, f1, _, fd1, 2, ["self", "words"], _, rfl, ho, rfl, T.cl, M1, F1, hr, B1, a, l, ts, k, me, "next", aE, ["next", "go", "call", "back", "stop", "fault"], rfl, hR, h0, .inr (Z.endsq _), by decide +kernel, fun H1 r1 b1 => ?_⟩
    obtain ⟨dx1, ho1⟩ := r1.ob
    refine ⟨_, rfl, rfl, _, rfl, iteB (by decide +kernel) ?_⟩
    refine iteF ?_
    refine ⟨_, rfl, (by show 3 ≤ sizeLine; decide), fun p1 n1 => ?_⟩
    have s1 := same_new (o := .tup [.str "go", .str "call", .str "fault"]) n1
    refine ⟨p1, _, rfl, .inr (SqT.of upd_same), rfl, by decide +kernel, _, rfl, iteB (by decide +kernel) ?_⟩
    refine ⟨_, rfl, (by show 1 ≤ sizeLine; decide), fun p np => ?_⟩
    have s3 := same_new (o := .tup [.str "next"]) np
    exact q p _ ((r1.same s1).same s3) ((b1.same s1).same s3) (free_of (b1.same s1) (s1 _ _ ho1) np) upd_same
end
end L3
namespace L3
open PySem L2
def spLeaf (C : Addr) : Sp := fun vs H Q _ => ∃ a l ts k me wv, vs = [.ref a, wv] ∧ RdO C H a l ts k me ∧ (tz ts)[k]? = some "next" ∧ ∀ u H', RdO C H' a l ts (k + 1) me → ButO a H H' → LeafV H' u → Q u H'
def spBody (C : Addr) : Sp := fun vs H Q _ => ∃ a l ts k me wv, ∃ n : Nat, vs = [.ref a, wv, .int n] ∧ n < 3 ∧ RdO C H a l ts k me ∧ (tz ts)[k]? = some "{" ∧ (tz ts)[k + 1]? = some "next" ∧ (tz ts)[k + 2]? = some "}" ∧ ∀ u H', RdO C H' a l ts (k + 3) me → ButO a H H' → LeafV H' u → Q u H'
theorem ButO.kt {C : Addr} {a dx : Addr} {H H' : Hp} {fs : List (Str × V)} (b : ButO a H H') (ho : H a = some (.ins C dx fs)) : TupK H H' := fun c xs e => b c _ e (by
  rintro rfl
  rw [ho] at e
  cases e)
theorem NextV.kt {H H' : Hp} (k : TupK H H') {u : V} (h : NextV H u) : NextV H' u := let ⟨p, a, b⟩ := h; ⟨p, a, k _ _ b⟩
theorem LeafV.kt {H H' : Hp} (k : TupK H H') {u : V} (h : LeafV H u) : LeafV H' u := let ⟨p, t, e, a, b, c, d⟩ := h; ⟨p, t, e, a, k _ _ b, k _ _ c, d.kt k⟩
section
variable {P : Program} {w : World} {K : PySem.W.Frag} {mg : Str → Option Value} {base : Heap} {C : Addr} {aS aE aF : Addr} {t1 t2 t3 t4 : Tok}
theorem scLeaf : FnScope ["reader", "width", "sets", "cell_free"] ["reader", "width"] (defScope sReadLeaf) := ⟨rfl, rfl, rfl, by decide +kernel, rfl, by decide +kernel, by decide +kernel⟩
set_option maxHeartbeats 1000000 in
theorem ok_leaf {f : Addr} {fd : FuncData} (F : Fun K "read_leaf" "read_leaf" sReadLeaf f fd) (T : Rm2 P w K mg base C) (Z : TopT K mg aS aE aF t1 t2 t3 t4) (B : Bl mg) (EN : Fn P w K mg base "read_end" 3 ["reader"] (spEnd C)) : FnOk P w K mg base CX0 4 f fd ["reader", "width"] (spLeaf C) := by
  refine F.ok scLeaf (fun vs H Q E h => ?_) (fun cdv A outer s H vs Q E hr h => ?_)
  · obtain ⟨a, l, ts, k, me, wv, rfl, _⟩ := h
    rfl
  · obtain ⟨a, l, ts, k, me, wv, rfl, hR, h0, q⟩ := h
    have hr1 : Room 1 _ := hr.mono (by decide)
    refine ⟨_, pss_cons (ps_set (i := 2) scLeaf.nd rfl (Or.inl rfl) (pe_lst pa_nil))
      (pss_cons (ps_while PassesOwn.never (PW.pt (pw_and (pt_cmpR op_lt (pe_callB call_len_seq (by rfl) B.len PySem.boot_len (pa_cons (pv 2) pa_nil)) (pe_glob (v := .int 4) rfl Z.ms ⟨_, rfl⟩) (nomark _)) (pw_and1 (pt_cmpR op_eq (pe_methD0 (pv 0)) pe_str (nomark _))))) (pss_cons ps_never (pss_cons ps_never (pss_one ps_never))))
      (pss_one (ps_ret (pe_tup (pa_cons pe_str (pa_cons (pe_callTy call_tuple_of (by rfl) B.tuple boot_tuple' (pa_cons (pv 2) pa_nil)) (pa_cons (pe_fn EN hr rfl (pa_cons (pv 0) pa_nil)) pa_nil))))))), ?_⟩
    obtain ⟨f3, fd3, M3, F3, B3⟩ := T.look
    obtain ⟨dx, ho⟩ := hR.ob
    refine ⟨(by show 0 ≤ sizeLine; decide), fun ln nn => ?_⟩
    have s1 := same_new (o := .lst []) nn
    have e1 : (upd H ln (.lst [])) ln = some (.lst []) := upd_same
    generalize upd H ln (.lst ([] : List V)) = H1 at *
    refine ⟨fun m σ H' => m = 0 ∧ H' = H1 ∧ σ = [some (.ref a), some wv, some (.ref ln), none], ⟨_, rfl, rfl, rfl⟩, ?_⟩
    rintro m σ H2 ⟨rfl, rfl, rfl⟩
    refine ⟨_, rfl, ln, _, rfl, .inl (SqL.of e1), _, _, rfl, rfl, _, rfl, iteA (by decide +kernel) ?_⟩
    refine ⟨_, rfl, a, dx, C, f3, _, fd3, 1, ["self"], _, rfl, s1 _ _ ho, rfl, T.cl, M3, F3, hr1, B3, a, l, ts, k, me, "next", rfl, hR.same s1, h0, rfl, _, rfl, iteB (by decide +kernel) ?_⟩
    refine ⟨_, rfl, ln, _, rfl, .inl ⟨SqL.of e1, fun t nt => ?_⟩⟩
    have s2 := same_new (o := .tup []) nt
    have e2 : (upd H2 t (.tup [])) t = some (.tup []) := upd_same
    generalize upd H2 t (.tup ([] : List V)) = H3 at *
    have s12 := s1.trans s2
    have ho3 := s12 _ _ ho
    refine ⟨_, rfl, a, l, ts, k, me, rfl, hR.same s12, h0, fun p H4 r4 b4 np e4 => ⟨(by show 3 ≤ sizeLine; decide), fun pt npt => ?_⟩⟩
    have s5 := same_new (o := .tup [.str "leaf", .ref t, .ref p]) npt
    have k4 := b4.kt ho3
    refine q _ _ (r4.same s5) (((buto_of s12).trans b4).same s5) ⟨pt, t, .ref p, rfl, upd_same, s5 _ _ (k4 _ _ e2), ⟨p, rfl, s5 _ _ e4⟩⟩
theorem scBody : FnScope ["reader", "width", "choices", "body"] ["reader", "width", "choices"] (defScope sReadBody) := ⟨rfl, rfl, rfl, by decide +kernel, rfl, by decide +kernel, by decide +kernel⟩
set_option maxHeartbeats 1000000 in
theorem ok_body {f : Addr} {fd : FuncData} (F : Fun K "read_body" "read_body" sReadBody f fd) (T : Rm2 P w K mg base C) (Z : TopT K mg aS aE aF t1 t2 t3 t4) (LF : Fn P w K mg base "read_leaf" 4 ["reader", "width"] (spLeaf C)) : FnOk P w K mg base CX0 5 f fd ["reader", "width", "choices"] (spBody C) := by
  refine F.ok scBody (fun vs H Q E h => ?_) (fun cdv A outer s H vs Q E hr h => ?_)
  · obtain ⟨a, l, ts, k, me, wv, n, rfl, _⟩ := h
    rfl
  · obtain ⟨a, l, ts, k, me, wv, n, rfl, hn, hR, h0, h1, h2, q⟩ := h
    have hr1 : Room 1 _ := hr.mono (by decide)
    have hr2 : Room 2 _ := hr.mono (by decide)
    refine ⟨_, pss_cons (ps_expr (pe_methD (pv 0) (pa_cons (pe_tup (pa_cons pe_str pa_nil)) pa_nil)))
      (pss_cons (ps_if (PW.pt (pw_and (pt_cmpR op_lt (pv 2) (pe_glob (v := .int 3) rfl Z.mc ⟨_, rfl⟩) (nomark _)) (pw_and1 (pt_cmpR op_eq (pe_methD0 (pv 0)) pe_str (nomark _))))) (pss_one ps_never) (pss_one (ps_set (i := 3) scBody.nd rfl (Or.inl rfl) (pe_fn LF hr rfl (pa_cons (pv 0) (pa_cons (pv 1) pa_nil))))))
      (pss_cons (ps_expr (pe_methD (pv 0) (pa_cons (pe_tup (pa_cons pe_str pa_nil)) pa_nil)))
      (pss_one (ps_ret (pv 3))))), ?_⟩
    obtain ⟨f1, fd1, M1, F1, B1⟩ := T.need
    obtain ⟨f3, fd3, M3, F3, B3⟩ := T.look
    obtain ⟨dx, ho⟩ := hR.ob
    refine ⟨_, rfl, a, dx, C, f1, _, fd1, 2, ["self", "words"], _, rfl, ho, rfl, T.cl, M1, F1, hr2, B1, (by show 1 ≤ sizeLine; decide), fun p1 n1 => ?_⟩
    have s1 := same_new (o := .tup [.str "{"]) n1
    refine ⟨a, l, ts, k, me, "{", p1, ["{"], rfl, hR.same s1, h0, (.inr (SqT.of upd_same)), by simp, fun H1 r1 b1 => ?_⟩
    obtain ⟨dx1, ho1⟩ := r1.ob
    refine ⟨_, rfl, _, _, rfl, rfl, _, rfl, iteA (decide_eq_true (by omega)) ?_⟩
    refine ⟨_, rfl, a, dx1, C, f3, _, fd3, 1, ["self"], _, rfl, ho1, rfl, T.cl, M3, F3, hr1, B3, a, l, ts, k + 1, me, "next", rfl, r1, h1, rfl, _, rfl, iteB (by decide +kernel) ?_⟩
    refine ⟨_, rfl, _, rfl, a, l, ts, k + 1, me, wv, rfl, r1, h1, fun u H2 r2 b2 hu => ?_⟩
    obtain ⟨dx2, ho2⟩ := r2.ob
    refine ⟨_, rfl, a, dx2, C, f1, _, fd1, 2, ["self", "words"], _, rfl, ho2, rfl, T.cl, M1, F1, hr2, B1, (by show 1 ≤ sizeLine; decide), fun p2 n2 => ?_⟩
    have s2 := same_new (o := .tup [.str "}"]) n2
    refine ⟨a, l, ts, k + 2, me, "}", p2, ["}"], rfl, r2.same s2, h2, (.inr (SqT.of upd_same)), by simp, fun H3 r3 b3 => ?_⟩
    refine ⟨_, rfl, q u H3 r3 ((((buto_of s1).trans b1).trans b2).trans ((buto_of s2).trans b3)) ((hu.kt (kt_same s2)).kt (b3.kt (s2 _ _ ho2)))⟩
end
end L3
namespace L3
open PySem L2
theorem psnoc {α β : Type} {R : α → β → Prop} {x : α} {y : β} (h : R x y) : ∀ {xs : List α} {ys : List β}, Paired R xs ys → Paired R (xs ++ [x]) (ys ++ [y])
  | _, _, .nil => .cons h .nil
  | _, _, .cons a b => .cons a (psnoc h b)
theorem pmap {α β : Type} {R R' : α → β → Prop} (f : ∀ x y, R x y → R' x y) : ∀ {xs : List α} {ys : List β}, Paired R xs ys → Paired R' xs ys
  | _, _, .nil => .nil
  | _, _, .cons a b => .cons (f _ _ a) (pmap f b)
theorem kt_ls {H : Hp} {l : Addr} {xs ys : List V} (e : H l = some (.lst xs)) : TupK H (upd H l (.lst ys)) := fun b us h => by
  rw [upd_ne]
  · exact h
  · rintro rfl
    rw [e] at h
    cases h
theorem FldV.kt {H H' : Hp} (k : TupK H H') {u : V} {x : Str × Str} (h : FldV H u x) : FldV H' u x := let ⟨p, a, b⟩ := h; ⟨p, a, k _ _ b⟩
def FldsAt (ts : List Str) (k : Nat) (fs : List (Str × Str)) : Prop := ∀ i (h : i < fs.length), (tz ts)[k + 3 * i]? = some fs[i].1 ∧ NameS fs[i].1 ∧ (tz ts)[k + 3 * i + 1]? = some fs[i].2 ∧ fs[i].2 ∈ sortL ∧ (i + 1 < fs.length → (tz ts)[k + 3 * i + 2]? = some ",")
def spFields (C : Addr) : Sp := fun vs H Q _ => ∃ a l ts k me fs, vs = [.ref a] ∧ RdO C H a l ts k me ∧ (tz ts)[k]? = some "(" ∧ FldsAt ts (k + 1) fs ∧ (tz ts)[k + 1 + (3 * fs.length - 1)]? = some ")" ∧ fs.length ≤ 3 ∧
  ∀ p us H', RdO C H' a l ts (k + 2 + (3 * fs.length - 1)) me → ButO a H H' → H p = none → H' p = some (.tup us) → Paired (FldV H') us fs → Q (.ref p) H'
structure FI (C : Addr) (H : Hp) (a l : Addr) (ts : List Str) (k : Nat) (me : Bool) (fs : List (Str × Str)) (j : Nat) (lf : Addr) (H' : Hp) : Prop where
  rd : RdO C H' a l ts (k + (3 * j - 1)) me
  bt : ButO a H H'
  nf : H lf = none
  la : lf ≠ a
  ll : lf ≠ l
  ls : ∃ us, H' lf = some (.lst us) ∧ us.length = j ∧ Paired (FldV H') us (fs.take j)
section
variable {P : Program} {w : World} {K : PySem.W.Frag} {mg : Str → Option Value} {base : Heap} {C : Addr} {aS aE aF : Addr} {t1 t2 t3 t4 : Tok}
theorem FI.more {H : Hp} {a l : Addr} {ts : List Str} {k : Nat} {me : Bool} {fs : List (Str × Str)} {j : Nat} {lf : Addr} {H3 H4 : Hp} {p : Addr} {us : List V} (I : FI C H a l ts k me fs j lf H3) (hj : j < fs.length) (hk : TupK H3 H4) (e4 : H4 lf = some (.lst us)) (hu : us.length = j) (hp : Paired (FldV H3) us (fs.take j))
    (r4 : RdO C H4 a l ts (k + (3 * (j + 1) - 1)) me) (b4 : ButO a H3 H4) (ep : H4 p = some (.tup [.str fs[j].1, .str fs[j].2])) : FI C H a l ts k me fs (j + 1) lf (upd H4 lf (.lst (us ++ [.ref p]))) := by
  have k2 := kt_ls (ys := us ++ [V.ref p]) e4
  refine ⟨⟨?_, ?_, r4.le⟩, ?_, I.nf, I.la, I.ll, us ++ [.ref p], upd_same, by simp [hu], ?_⟩
  · obtain ⟨dx, ho⟩ := r4.ob
    exact ⟨dx, by rw [upd_ne I.la.symm]; exact ho⟩
  · rw [upd_ne I.ll.symm]
    exact r4.tk
  · intro b o e nb
    by_cases h : b = lf
    · rw [h, I.nf] at e
      cases e
    · rw [upd_ne h]
      exact b4 _ _ (I.bt _ _ e nb) nb
  · rw [List.take_succ, List.getElem?_eq_getElem hj]
    exact psnoc ⟨p, rfl, k2 _ _ ep⟩ (pmap (fun _ _ h => (h.kt hk).kt k2) hp)
theorem scFields : FnScope ["reader", "fields"] ["reader"] (defScope sReadFields) := ⟨rfl, rfl, rfl, by decide +kernel, rfl, by decide +kernel, by decide +kernel⟩
set_option maxHeartbeats 4000000 in
theorem ok_fields {f : Addr} {fd : FuncData} (F : Fun K "read_fields" "read_fields" sReadFields f fd) (T : Rm2 P w K mg base C) (Z : TopT K mg aS aE aF t1 t2 t3 t4) (B : Bl mg) (FL : Fn P w K mg base "read_field" 3 ["reader"] (spField C)) : FnOk P w K mg base CX0 4 f fd ["reader"] (spFields C) := by
  refine F.ok scFields (fun vs H Q E h => ?_) (fun cdv A outer s H vs Q E hr h => ?_)
  · obtain ⟨a, l, ts, k, me, fs, rfl, _⟩ := h
    rfl
  · obtain ⟨a, l, ts, k, me, fs, rfl, hR, h0, hf, he, h3, q⟩ := h
    have hr1 : Room 1 _ := hr.mono (by decide)
    have hr2 : Room 2 _ := hr.mono (by decide)
    have sz : (1000 : Nat) ≤ sizeLine := by decide
    refine ⟨_, pss_cons (ps_expr (pe_methD (pv 0) (pa_cons (pe_tup (pa_cons pe_str pa_nil)) pa_nil)))
      (pss_cons (ps_set (i := 1) scFields.nd rfl (Or.inl rfl) (pe_lst pa_nil))
      (pss_cut (fun σ H' => ∃ j lf, j = min 1 fs.length ∧ σ = [some (.ref a), some (.ref lf)] ∧ FI C H a l ts (k + 1) me fs j lf H') (ps_if (pt_cmpR op_ne (pe_methD0 (pv 0)) pe_str (nomark _)) (pss_one (ps_expr (pe_bm PySem.F.plainAttrs_list PySem.F.slot_list_append PySem.F.type_list_append mt_append (pv 1) (pa_cons (pe_fn FL hr rfl (pa_cons (pv 0) pa_nil)) pa_nil)))) pss_nil)
      (pss_cut (fun σ H' => ∃ lf, σ = [some (.ref a), some (.ref lf)] ∧ FI C H a l ts (k + 1) me fs fs.length lf H') (ps_while PassesOwn.never (PW.pt (pw_and (pt_chain op_lt op_lt pe_int (pe_callB call_len_seq (by rfl) B.len PySem.boot_len (pa_cons (pv 1) pa_nil)) (pe_glob (v := .int 3) rfl Z.mf ⟨_, rfl⟩)) (pw_and1 (pt_cmpR op_eq (pe_methD0 (pv 0)) pe_str (nomark _)))))
        (pss_cons (ps_expr (pe_methD0 (pv 0))) (pss_one (ps_expr (pe_bm PySem.F.plainAttrs_list PySem.F.slot_list_append PySem.F.type_list_append mt_append (pv 1) (pa_cons (pe_fn FL hr rfl (pa_cons (pv 0) pa_nil)) pa_nil))))))
      (pss_cons (ps_expr (pe_methD (pv 0) (pa_cons (pe_tup (pa_cons pe_str pa_nil)) pa_nil)))
      (pss_one (ps_ret (pe_callTy call_tuple_of (by rfl) B.tuple boot_tuple' (pa_cons (pv 1) pa_nil)))))))), ?_⟩
    obtain ⟨f1, fd1, M1, F1, B1⟩ := T.need
    obtain ⟨f2, fd2, M2, F2, B2⟩ := T.take
    obtain ⟨f3, fd3, M3, F3, B3⟩ := T.look
    obtain ⟨dx, ho⟩ := hR.ob
    refine ⟨_, rfl, a, dx, C, f1, _, fd1, 2, ["self", "words"], _, rfl, ho, rfl, T.cl, M1, F1, hr2, B1, (by show 1 ≤ sizeLine; decide), fun p1 n1 => ?_⟩
    have s1 := same_new (o := .tup [.str "("]) n1
    refine ⟨a, l, ts, k, me, "(", p1, ["("], rfl, hR.same s1, h0, (.inr (SqT.of upd_same)), by simp, fun H1 r1 b1 => ?_⟩
    have c1 : ButO a H H1 := (buto_of s1).trans b1
    obtain ⟨dx1, ho1⟩ := r1.ob
    refine ⟨(by show 0 ≤ sizeLine; decide), fun lf nf => ?_⟩
    have s2 := same_new (o := .lst []) nf
    have e2 : (upd H1 lf (.lst [])) lf = some (.lst []) := upd_same
    have nH : H lf = none := free_of c1 ho1 nf
    have laN : lf ≠ a := by
      rintro rfl
      rw [nH] at ho
      cases ho
    have llN : lf ≠ l := fun z => by
      have := hR.tk
      rw [← z, nH] at this
      cases this
    have I0 : FI C H a l ts (k + 1) me fs 0 lf (upd H1 lf (.lst [])) := ⟨r1.same s2, c1.same s2, nH, laN, llN, [], e2, rfl, .nil⟩
    generalize upd H1 lf (.lst ([] : List V)) = H2 at *
    refine ⟨?_, ?_⟩
    · rintro σ H3 ⟨j0, lf, hj0, rfl, I3⟩
      refine ⟨?_, ?_⟩
      · rintro σ H4 ⟨lf, rfl, I4⟩
        obtain ⟨us, e4, l4, p4⟩ := I4.ls
        rw [List.take_length] at p4
        obtain ⟨dx4, ho4⟩ := I4.rd.ob
        refine ⟨_, rfl, a, dx4, C, f1, _, fd1, 2, ["self", "words"], _, rfl, ho4, rfl, T.cl, M1, F1, hr2, B1, (by show 1 ≤ sizeLine; decide), fun p2 n2 => ?_⟩
        have s4 := same_new (o := .tup [.str ")"]) n2
        refine ⟨a, l, ts, _, me, ")", p2, [")"], rfl, I4.rd.same s4, he, (.inr (SqT.of upd_same)), by simp, fun H5 r5 b5 => ?_⟩
        have e5 := b5 _ _ (s4 _ _ e4) I4.la
        have k5 := (kt_same s4).trans (b5.kt (s4 _ _ ho4))
        obtain ⟨dx5, ho5⟩ := r5.ob
        have c5 : ButO a H H5 := (I4.bt.same s4).trans b5
        refine ⟨_, rfl, lf, us, rfl, .inl ⟨SqL.of e5, fun p3 n3 => ?_⟩⟩
        have s6 := same_new (o := .tup us) n3
        refine q p3 us _ ?_ (c5.same s6) (free_of c5 ho5 n3) upd_same (pmap (fun _ _ h => (h.kt k5).kt (kt_same s6)) p4)
        have := r5.same s6
        have ee : k + 1 + (3 * fs.length - 1) + 1 = k + 2 + (3 * fs.length - 1) := by omega
        rw [ee] at this
        exact this
      · refine ⟨fun m σ H' => ∃ j lf, m = fs.length - j ∧ j ≤ fs.length ∧ (0 < j ∨ fs.length = 0) ∧ σ = [some (.ref a), some (.ref lf)] ∧ FI C H a l ts (k + 1) me fs j lf H', ⟨_, j0, lf, rfl, by omega, by omega, rfl, I3⟩, ?_⟩
        rintro m σ H5 ⟨j, lf, rfl, hj, hj1, rfl, I5⟩
        obtain ⟨us, e5, l5, p5⟩ := I5.ls
        obtain ⟨dx5, ho5⟩ := I5.rd.ob
        have done : j = fs.length → ∃ lf', [some (V.ref a), some (V.ref lf)] = [some (V.ref a), some (.ref lf')] ∧ FI C H a l ts (k + 1) me fs fs.length lf' H5 := fun e => ⟨lf, rfl, e ▸ I5⟩
        by_cases hj0' : 0 < j
        · by_cases hlt : j < fs.length
          · refine ⟨_, rfl, lf, _, rfl, .inl (SqL.of e5), _, _, rfl, rfl, _, rfl, iteA (decide_eq_true (by rw [l5]; omega)) ⟨_, _, rfl, rfl, _, rfl, iteA (decide_eq_true (by rw [l5]; omega)) ?_⟩⟩
            obtain ⟨_, _, _, _, hcm⟩ := hf (j - 1) (by omega)
            have hcm' : (tz ts)[k + 1 + (3 * j - 1)]? = some "," := by
              have := hcm (by omega)
              rw [show k + 1 + 3 * (j - 1) + 2 = k + 1 + (3 * j - 1) by omega] at this
              exact this
            refine ⟨_, rfl, a, dx5, C, f3, _, fd3, 1, ["self"], _, rfl, ho5, rfl, T.cl, M3, F3, hr1, B3, a, l, ts, _, me, ",", rfl, I5.rd, hcm', rfl, _, rfl, iteA (by decide +kernel) ?_⟩
            refine ⟨fun σ' H' => σ' = [some (.ref a), some (.ref lf)] ∧ FI C H a l ts (k + 1) me fs (j + 1) lf H', fun σ' H' ⟨e1, e2⟩ => ⟨_, by omega, j + 1, lf, rfl, by omega, by omega, e1, e2⟩, ?_⟩
            refine ⟨_, rfl, a, dx5, C, f2, _, fd2, 1, ["self"], _, rfl, ho5, rfl, T.cl, M2, F2, hr1, B2, a, l, ts, _, me, ",", rfl, I5.rd, hcm', fun H6 r6 b6 => ?_⟩
            obtain ⟨dx6, ho6⟩ := r6.ob
            have e6 := b6 _ _ e5 I5.la
            obtain ⟨g1, g2, g3, g4, _⟩ := hf j hlt
            have ek : k + 1 + (3 * j - 1) + 1 = k + 1 + 3 * j := by omega
            rw [ek] at r6
            refine ⟨_, rfl, .inl ⟨rfl, _, SqL.of e6⟩, _, rfl, a, l, ts, _, me, fs[j], rfl, r6, g1, g2, g3, g4, fun p H7 r7 b7 np ep => ?_⟩
            have e7 := b7 _ _ e6 I5.la
            have ek2 : k + 1 + 3 * j + 2 = k + 1 + (3 * (j + 1) - 1) := by omega
            rw [ek2] at r7
            exact ⟨lf, us, _, rfl, rfl, e7, by rw [l5]; omega, rfl, I5.more hlt ((b6.kt ho5).trans (b7.kt ho6)) e7 l5 p5 r7 (b6.trans b7) ep⟩
          · have hje : j = fs.length := by omega
            have he' : (tz ts)[k + 1 + (3 * j - 1)]? = some ")" := by rw [hje]; exact he
            by_cases h3' : j < 3
            · refine ⟨_, rfl, lf, _, rfl, .inl (SqL.of e5), _, _, rfl, rfl, _, rfl, iteA (decide_eq_true (by rw [l5]; omega)) ⟨_, _, rfl, rfl, _, rfl, iteA (decide_eq_true (by rw [l5]; omega)) ?_⟩⟩
              refine ⟨_, rfl, a, dx5, C, f3, _, fd3, 1, ["self"], _, rfl, ho5, rfl, T.cl, M3, F3, hr1, B3, a, l, ts, _, me, ")", rfl, I5.rd, he', rfl, _, rfl, iteB (by decide +kernel) (done hje)⟩
            · refine ⟨_, rfl, lf, _, rfl, .inl (SqL.of e5), _, _, rfl, rfl, _, rfl, iteA (decide_eq_true (by rw [l5]; omega)) ⟨_, _, rfl, rfl, _, rfl, iteB (decide_eq_false (by rw [l5]; omega)) (iteF (done hje))⟩⟩
        · have hje : j = fs.length := by omega
          refine ⟨_, rfl, lf, _, rfl, .inl (SqL.of e5), _, _, rfl, rfl, _, rfl, iteB (decide_eq_false (by rw [l5]; omega)) ⟨_, rfl, iteF (iteF (done hje))⟩⟩
    · obtain ⟨dx2, ho2⟩ := I0.rd.ob
      by_cases hz : 0 < fs.length
      · obtain ⟨g1, g2, g3, g4, _⟩ := hf 0 hz
        have nsc : fs[0].1 ≠ (")" : Str) := by
          intro z
          obtain ⟨_, _, _, hc⟩ := g2
          rw [z] at hc
          exact absurd (hc 41 (by decide +kernel)) (by omega)
        refine ⟨_, rfl, a, dx2, C, f3, _, fd3, 1, ["self"], _, rfl, ho2, rfl, T.cl, M3, F3, hr1, B3, a, l, ts, _, me, fs[0].1, rfl, I0.rd, g1, rfl, _, rfl, iteA (by simpa using nsc) ?_⟩
        refine ⟨_, rfl, .inl ⟨rfl, _, SqL.of e2⟩, _, rfl, a, l, ts, _, me, fs[0], rfl, I0.rd, g1, g2, g3, g4, fun p H7 r7 b7 np ep => ?_⟩
        have e7 := b7 _ _ e2 I0.la
        exact ⟨lf, [], _, rfl, rfl, e7, by show 0 < sizeLine; decide, 1, lf, by omega, rfl, I0.more hz (b7.kt ho2) e7 rfl .nil r7 b7 ep⟩
      · have hz0 : fs.length = 0 := by omega
        have he' : (tz ts)[k + 1 + (3 * 0 - 1)]? = some ")" := by rw [hz0] at he; exact he
        refine ⟨_, rfl, a, dx2, C, f3, _, fd3, 1, ["self"], _, rfl, ho2, rfl, T.cl, M3, F3, hr1, B3, a, l, ts, _, me, ")", rfl, I0.rd, he', rfl, _, rfl, iteB (by simp) ?_⟩
        exact ⟨0, lf, by omega, rfl, I0⟩
end
end L3
namespace L3
open PySem L2
structure Kn where
  name : Str
  fs : List (Str × Str)
def KindV (H : Hp) (u : V) (x : Kn) : Prop := ∃ p tf b us, u = .ref p ∧ H p = some (.tup [.str x.name, .ref tf, b]) ∧ H tf = some (.tup us) ∧ Paired (FldV H) us x.fs ∧ LeafV H b
theorem KindV.kt {H H' : Hp} (k : TupK H H') {u : V} {x : Kn} (h : KindV H u x) : KindV H' u x := let ⟨p, tf, b, us, a, c, d, e, f⟩ := h; ⟨p, tf, b, us, a, k _ _ c, k _ _ d, pmap (fun _ _ h => h.kt k) e, f.kt k⟩
def klen (x : Kn) : Nat := 7 + (3 * x.fs.length - 1)
structure KindAt (ts : List Str) (k : Nat) (x : Kn) : Prop where
  t0 : (tz ts)[k]? = some "kind"
  t1 : (tz ts)[k + 1]? = some x.name
  nm : NameS x.name
  t2 : (tz ts)[k + 2]? = some "("
  fl : FldsAt ts (k + 3) x.fs
  t3 : (tz ts)[k + 3 + (3 * x.fs.length - 1)]? = some ")"
  le : x.fs.length ≤ 3
  t4 : (tz ts)[k + 4 + (3 * x.fs.length - 1)]? = some "{"
  t5 : (tz ts)[k + 5 + (3 * x.fs.length - 1)]? = some "next"
  t6 : (tz ts)[k + 6 + (3 * x.fs.length - 1)]? = some "}"
def spKind (C : Addr) : Sp := fun vs H Q _ => ∃ a l ts k me wv x, vs = [.ref a, wv] ∧ RdO C H a l ts k me ∧ KindAt ts k x ∧ ∀ u H', RdO C H' a l ts (k + klen x) me → ButO a H H' → KindV H' u x → Q u H'
section
variable {P : Program} {w : World} {K : PySem.W.Frag} {mg : Str → Option Value} {base : Heap} {C : Addr} {aS aE aF : Addr} {t1 t2 t3 t4 : Tok}
theorem scKind : FnScope ["reader", "width", "name", "fields"] ["reader", "width"] (defScope sReadKind) := ⟨rfl, rfl, rfl, by decide +kernel, rfl, by decide +kernel, by decide +kernel⟩
set_option maxHeartbeats 1000000 in
theorem ok_kind {f : Addr} {fd : FuncData} (F : Fun K "read_kind" "read_kind" sReadKind f fd) (T : Rm2 P w K mg base C) (FS : Fn P w K mg base "read_fields" 4 ["reader"] (spFields C)) (BD : Fn P w K mg base "read_body" 5 ["reader", "width", "choices"] (spBody C)) : FnOk P w K mg base CX0 6 f fd ["reader", "width"] (spKind C) := by
  refine F.ok scKind (fun vs H Q E h => ?_) (fun cdv A outer s H vs Q E hr h => ?_)
  · obtain ⟨a, l, ts, k, me, wv, x, rfl, _⟩ := h
    rfl
  · obtain ⟨a, l, ts, k, me, wv, x, rfl, hR, hK, q⟩ := h
    have hr2 : Room 2 _ := hr.mono (by decide)
    have hr4 : Room 4 _ := hr.mono (by decide)
    refine ⟨_, pss_cons (ps_expr (pe_methD (pv 0) (pa_cons (pe_tup (pa_cons pe_str pa_nil)) pa_nil)))
      (pss_cons (ps_set (i := 2) scKind.nd rfl (Or.inl rfl) (pe_methD0 (pv 0)))
      (pss_cons (ps_set (i := 3) scKind.nd rfl (Or.inl rfl) (pe_fn FS hr4 rfl (pa_cons (pv 0) pa_nil)))
      (pss_one (ps_ret (pe_tup (pa_cons (pv 2) (pa_cons (pv 3) (pa_cons (pe_fn BD hr rfl (pa_cons (pv 0) (pa_cons (pv 1) (pa_cons pe_int pa_nil)))) pa_nil)))))))), ?_⟩
    obtain ⟨f1, fd1, M1, F1, B1⟩ := T.need
    obtain ⟨f2, fd2, M2, F2, B2⟩ := T.nname
    obtain ⟨dx, ho⟩ := hR.ob
    refine ⟨_, rfl, a, dx, C, f1, _, fd1, 2, ["self", "words"], _, rfl, ho, rfl, T.cl, M1, F1, hr2, B1, (by show 1 ≤ sizeLine; decide), fun p1 n1 => ?_⟩
    have s1 := same_new (o := .tup [.str "kind"]) n1
    refine ⟨a, l, ts, k, me, "kind", p1, ["kind"], rfl, hR.same s1, hK.t0, (.inr (SqT.of upd_same)), by simp, fun H1 r1 b1 => ?_⟩
    obtain ⟨dx1, ho1⟩ := r1.ob
    refine ⟨_, rfl, a, dx1, C, f2, _, fd2, 2, ["self"], _, rfl, ho1, rfl, T.cl, M2, F2, hr2, B2, a, l, ts, k + 1, me, x.name, rfl, r1, hK.t1, hK.nm, fun H2 r2 b2 => ?_⟩
    refine ⟨_, rfl, a, l, ts, k + 2, me, x.fs, rfl, r2, hK.t2, hK.fl, hK.t3, hK.le, fun tf us H3 r3 b3 nf e3 p3 => ?_⟩
    obtain ⟨dx3, ho3⟩ := r3.ob
    have ek : k + 2 + 2 + (3 * x.fs.length - 1) = k + 4 + (3 * x.fs.length - 1) := by omega
    rw [ek] at r3
    have u5 : (tz ts)[k + 4 + (3 * x.fs.length - 1) + 1]? = some "next" := by rw [show k + 4 + (3 * x.fs.length - 1) + 1 = k + 5 + (3 * x.fs.length - 1) by omega]; exact hK.t5
    have u6 : (tz ts)[k + 4 + (3 * x.fs.length - 1) + 2]? = some "}" := by rw [show k + 4 + (3 * x.fs.length - 1) + 2 = k + 6 + (3 * x.fs.length - 1) by omega]; exact hK.t6
    refine ⟨_, rfl, _, rfl, _, rfl, _, rfl, a, l, ts, k + 4 + (3 * x.fs.length - 1), me, wv, 0, rfl, by decide, r3, hK.t4, u5, u6, fun u H4 r4 b4 hu => ⟨(by show 3 ≤ sizeLine; decide), fun pt npt => ?_⟩⟩
    have s5 := same_new (o := .tup [.str x.name, .ref tf, u]) npt
    have k4 := b4.kt ho3
    have r5 := r4.same s5
    rw [show k + 4 + (3 * x.fs.length - 1) + 3 = k + klen x by unfold klen; omega] at r5
    exact q _ _ r5 ((((((buto_of s1).trans b1).trans b2).trans b3).trans b4).same s5) ⟨pt, tf, u, us, rfl, upd_same, s5 _ _ (k4 _ _ e3), pmap (fun _ _ h => (h.kt k4).kt (kt_same s5)) p3, hu.kt (kt_same s5)⟩
abbrev sRInit : Stmt := inClass (top 56) 0
def spRInit (C : Addr) : Sp := fun vs H Q _ => ∃ x dx lt ts, vs = [.ref x, .ref lt] ∧ H x = some (.ins C dx []) ∧ H lt = some (.lst (strsV ts)) ∧ ts.length ≤ 1500 ∧ ∀ l H', RdO C H' x l ts 0 true → ButO x H H' → Q .non H'
theorem scRInit : FnScope ["self", "tokens"] ["self", "tokens"] (defScope sRInit) := ⟨rfl, rfl, rfl, by decide +kernel, rfl, by decide +kernel, by decide +kernel⟩
end
end L3
namespace L3
open PySem L2
theorem cut_all {xs : List V} (h : xs.length ≤ 1500) : cutV xs none (some 1500) = xs := by
  have e1 : HT.sIx xs.length 0 none = 0 := rfl
  have e2 : HT.sIx xs.length xs.length (some 1500) = xs.length := by
    simp only [HT.sIx]
    rw [if_neg (by decide)]
    show min 1500 xs.length = xs.length
    omega
  unfold cutV
  rw [e1, e2]
  simp
section
variable {P : Program} {w : World} {K : PySem.W.Frag} {mg : Str → Option Value} {base : Heap} {C : Addr} {aS aE aF : Addr} {t1 t2 t3 t4 t5 : Tok}
set_option maxHeartbeats 1000000 in
theorem ok_rInit {f : Addr} {fd : FuncData} (F : Fun K "__init__" "Reader.__init__" sRInit f fd) (T : Rc K C) (B : Bl mg) (hm : mg "MOST_TOKENS" = some (.int 1500 t5)) : FnOk P w K mg base CX0 1 f fd ["self", "tokens"] (spRInit C) := by
  refine F.ok scRInit (fun vs H Q E h => ?_) (fun cdv A outer s H vs Q E hr h => ?_)
  · obtain ⟨x, dx, lt, ts, rfl, _⟩ := h
    rfl
  · obtain ⟨x, dx, lt, ts, rfl, hx, hl, h15, q⟩ := h
    refine ⟨_, pss_cons (ps_fld (pv 0) (pe_op op_cat (pe_slice sl_list (pv 1) po_none (po_some (pe_glob (v := .int 1500) rfl hm ⟨_, rfl⟩))) (pe_lst (pa_cons pe_str pa_nil))) rfl)
      (pss_cons (ps_fld (pv 0) pe_int rfl) (pss_one (ps_fld (pv 0) (pe_cmpR op_le (pe_callB call_len_seq (by rfl) B.len PySem.boot_len (pa_cons (pv 1) pa_nil)) (pe_glob (v := .int 1500) rfl hm ⟨_, rfl⟩) (nomark _)) rfl))), ?_⟩
    have lv : (strsV ts).length ≤ 1500 := by unfold strsV; rw [List.length_map]; exact h15
    have sz : (10000 : Nat) ≤ sizeLine := by decide
    refine ⟨_, rfl, _, rfl, lt, _, rfl, SqL.of hl, fun p1 n1 => ?_⟩
    rw [cut_all lv]
    have s1 := same_new (o := .lst (strsV ts)) n1
    have e1 : (upd H p1 (.lst (strsV ts))) p1 = some (.lst (strsV ts)) := upd_same
    generalize upd H p1 (.lst (strsV ts)) = H1 at *
    refine ⟨(by show 1 ≤ sizeLine; decide), fun p2 n2 => ?_⟩
    have s2 := same_new (o := .lst [.str ""]) n2
    have s12 := s1.trans s2
    refine ⟨p1, p2, _, _, rfl, rfl, s2 _ _ e1, upd_same, by show _ + 1 ≤ _; omega, fun l nl => ?_⟩
    have s3 := same_new (o := .lst (strsV ts ++ [.str ""])) nl
    have s13 := s12.trans s3
    have el : (upd (upd H1 p2 (.lst [.str ""])) l (.lst (strsV ts ++ [.str ""]))) l = some (.lst (strsV (ts ++ [("" : Str)]))) := by
      rw [upd_same]
      unfold strsV
      rw [List.map_append]
      rfl
    have nlH : H l = none := s12.free nl
    generalize upd (upd H1 p2 (.lst [V.str ""])) l (.lst (strsV ts ++ [V.str ""])) = H3 at *
    have lx : l ≠ x := by
      rintro rfl
      rw [nlH] at hx
      cases hx
    have ltx : lt ≠ x := by
      rintro rfl
      rw [hl] at hx
      cases hx
    refine ⟨_, rfl, x, C, dx, _, rfl, s13 _ _ hx, T.cl, T.n1, (by show 0 < 1000; decide), ?_⟩
    refine ⟨_, rfl, x, C, dx, _, rfl, upd_same, T.cl, T.n2, (by show 1 < 1000; decide), ?_⟩
    have hl3 : (upd (upd H3 x (.ins C dx (putF "tokens" (.ref l) []))) x (.ins C dx (putF "spot" (.int 0) (putF "tokens" (.ref l) [])))) lt = some (.lst (strsV ts)) := by rw [upd_ne ltx, upd_ne ltx]; exact s13 _ _ hl
    refine ⟨_, rfl, lt, _, rfl, .inl (SqL.of hl3), _, _, rfl, rfl, ?_⟩
    refine ⟨_, rfl, x, C, dx, _, rfl, upd_same, T.cl, T.n3, (by show 2 < 1000; decide), ?_⟩
    have hd : decide (((strsV ts).length : Int) ≤ 1500) = true := decide_eq_true (by omega)
    have eF : (putF "may_end" (.bl (decide (((strsV ts).length : Int) ≤ 1500))) (putF "spot" (.int 0) (putF "tokens" (.ref l) []))) = rdF l 0 true := by rw [hd]; rfl
    refine q l _ ⟨⟨dx, ?_⟩, ?_, h15⟩ ?_
    · rw [upd_same]
      exact congrArg some (congrArg (HO.ins C dx) eF)
    · rw [upd_ne lx, upd_ne lx, upd_ne lx]
      exact el
    · intro b o e nb
      rw [upd_ne nb, upd_ne nb, upd_ne nb]
      exact s13 _ _ e
end
end L3
namespace L3
open PySem L2
structure Fm where
  width : Nat
  cells : Nat
  depth : Nat
  places : List Str
  marks : List Str
  gates : List Str
  kinds : List Kn
def KindsAt (ts : List Str) : Nat → List Kn → Prop
  | k, [] => k = ts.length
  | k, x :: r => KindAt ts k x ∧ KindsAt ts (k + klen x) r
structure FormAt (ts : List Str) (D : Fm) : Prop where
  a0 : (tz ts)[0]? = some ("word" : Str)
  a1 : (tz ts)[1]? = some (toString (D.width : Int) : Str)
  a2 : (tz ts)[2]? = some (";" : Str)
  a3 : (tz ts)[3]? = some ("cells" : Str)
  a4 : (tz ts)[4]? = some (toString (D.cells : Int) : Str)
  a5 : (tz ts)[5]? = some (";" : Str)
  a6 : (tz ts)[6]? = some ("depth" : Str)
  a7 : (tz ts)[7]? = some (toString (D.depth : Int) : Str)
  a8 : (tz ts)[8]? = some (";" : Str)
  a9 : (tz ts)[9]? = some ("places" : Str)
  pn : NmsAt ts 10 D.places
  pe : (tz ts)[10 + D.places.length]? = some (";" : Str)
  m9 : (tz ts)[11 + D.places.length]? = some ("marks" : Str)
  mn : NmsAt ts (12 + D.places.length) D.marks
  me : (tz ts)[12 + D.places.length + D.marks.length]? = some (";" : Str)
  g9 : (tz ts)[13 + D.places.length + D.marks.length]? = some ("gate" : Str)
  gn : NmsAt ts (14 + D.places.length + D.marks.length) D.gates
  ge : (tz ts)[14 + D.places.length + D.marks.length + D.gates.length]? = some (";" : Str)
  ks : KindsAt ts (15 + D.places.length + D.marks.length + D.gates.length) D.kinds
  bw : 4 ≤ D.width ∧ D.width ≤ 24
  bc : 4 ≤ D.cells ∧ D.cells ≤ 64
  bd : D.depth ≤ 8
  bp : 1 ≤ D.places.length ∧ D.places.length ≤ 4
  bm : D.marks.length ≤ 3
  bg : D.gates.length ≤ 1
  bk : 1 ≤ D.kinds.length ∧ D.kinds.length ≤ 8
def FormV (H : Hp) (u : V) (D : Fm) : Prop := ∃ p pp pm pg pk us, u = .ref p ∧ H p = some (.tup [.int D.width, .int D.cells, .int D.depth, .ref pp, .ref pm, .ref pg, .ref pk]) ∧ H pp = some (.tup (strsV D.places)) ∧ H pm = some (.tup (strsV D.marks)) ∧ H pg = some (.tup (strsV D.gates)) ∧ H pk = some (.tup us) ∧ Paired (KindV H) us D.kinds
def spForm : Sp := fun vs H Q _ => ∃ lt ts D, vs = [.ref lt] ∧ H lt = some (.lst (strsV ts)) ∧ ts.length ≤ 1500 ∧ FormAt ts D ∧ ∀ u H', Same H H' → FormV H' u D → Q u H'
theorem same_but {H Hc H' : Hp} {a : Addr} (na : H a = none) (sc : Same H Hc) (b : ButO a Hc H') : Same H H' := fun c o e => b c o (sc c o e) (ne_of_none e na)
structure KI (C : Addr) (Hc : Hp) (a l : Addr) (ts : List Str) (all done rest : List Kn) (lk pp pm pg : Addr) (D : Fm) (H' : Hp) : Prop where
  sp : all = done ++ rest
  rd : ∃ k, RdO C H' a l ts k true ∧ KindsAt ts k rest
  bt : ButO a Hc H'
  nk : Hc lk = none
  la : lk ≠ a
  ll : lk ≠ l
  ep : H' pp = some (.tup (strsV D.places))
  em : H' pm = some (.tup (strsV D.marks))
  eg : H' pg = some (.tup (strsV D.gates))
  ls : ∃ us, H' lk = some (.lst us) ∧ us.length = done.length ∧ Paired (KindV H') us done
section
variable {P : Program} {w : World} {K : PySem.W.Frag} {mg : Str → Option Value} {base : Heap} {C fi : Addr} {aS aE aF : Addr} {t1 t2 t3 t4 t5 : Tok}
theorem scForm : FnScope ["tokens", "reader", "width", "cells", "depth", "places", "marks", "gates", "kinds"] ["tokens"] (defScope sReadForm) := ⟨rfl, rfl, rfl, by decide +kernel, rfl, by decide +kernel, by decide +kernel⟩
set_option maxHeartbeats 8000000 in
theorem ok_form {f : Addr} {fd : FuncData} {fdi : FuncData} (F : Fun K "read_form" "read_form" sReadForm f fd) (T : Rm2 P w K mg base C) (Z : TopT K mg aS aE aF t1 t2 t3 t4) (B : Bl mg) (MK : Mk K C fi) (mgR : mg "Reader" = some (.ref C)) (IN : FnOk P w K mg base CX0 1 fi fdi ["self", "tokens"] (spRInit C)) (bI : Binds K fdi ["self", "tokens"] [])
    (BO : Fn P w K mg base "read_bounded" 4 ["reader", "word", "low", "high"] (spBounded C)) (NA : Fn P w K mg base "read_names" 3 ["reader", "word", "least", "most"] (spNames C)) (KD : Fn P w K mg base "read_kind" 6 ["reader", "width"] (spKind C)) : FnOk P w K mg base CX0 7 f fd ["tokens"] spForm := by
  refine F.ok scForm (fun vs H Q E h => ?_) (fun cdv A outer s H vs Q E hr h => ?_)
  · obtain ⟨lt, ts, D, rfl, _⟩ := h
    rfl
  · obtain ⟨lt, ts, D, rfl, hl, h15, hF, q⟩ := h
    have hr1 : Room 1 _ := hr.mono (by decide)
    have hr2 : Room 2 _ := hr.mono (by decide)
    have hr3 : Room 3 _ := hr.mono (by decide)
    have hr4 : Room 4 _ := hr.mono (by decide)
    have sz : (10000 : Nat) ≤ sizeLine := by decide
    refine ⟨_, pss_cons (ps_set (i := 1) scForm.nd rfl (Or.inl rfl) (pe_make MK IN hr2 rfl mgR bI .nil pass0 (pa_cons (pv 0) pa_nil)))
      (pss_cons (ps_set (i := 2) scForm.nd rfl (Or.inl rfl) (pe_fn BO hr4 rfl (pa_cons (pv 1) (pa_cons pe_str (pa_cons pe_int (pa_cons pe_int pa_nil))))))
      (pss_cons (ps_set (i := 3) scForm.nd rfl (Or.inl rfl) (pe_fn BO hr4 rfl (pa_cons (pv 1) (pa_cons pe_str (pa_cons pe_int (pa_cons pe_int pa_nil))))))
      (pss_cons (ps_set (i := 4) scForm.nd rfl (Or.inl rfl) (pe_fn BO hr4 rfl (pa_cons (pv 1) (pa_cons pe_str (pa_cons pe_int (pa_cons pe_int pa_nil))))))
      (pss_cons (ps_set (i := 5) scForm.nd rfl (Or.inl rfl) (pe_fn NA hr3 rfl (pa_cons (pv 1) (pa_cons pe_str (pa_cons pe_int (pa_cons pe_int pa_nil))))))
      (pss_cons (ps_set (i := 6) scForm.nd rfl (Or.inl rfl) (pe_fn NA hr3 rfl (pa_cons (pv 1) (pa_cons pe_str (pa_cons pe_int (pa_cons pe_int pa_nil))))))
      (pss_cons (ps_set (i := 7) scForm.nd rfl (Or.inl rfl) (pe_fn NA hr3 rfl (pa_cons (pv 1) (pa_cons pe_str (pa_cons pe_int (pa_cons pe_int pa_nil))))))
      (pss_cons (ps_set (i := 8) scForm.nd rfl (Or.inl rfl) (pe_lst (pa_cons (pe_fn KD hr rfl (pa_cons (pv 1) (pa_cons (pv 2) pa_nil))) pa_nil)))
      (pss_cons (ps_while PassesOwn.never (PW.pt (pw_and (pt_cmpR op_lt (pe_callB call_len_seq (by rfl) B.len PySem.boot_len (pa_cons (pv 8) pa_nil)) (pe_glob (v := .int 8) rfl Z.mkn ⟨_, rfl⟩) (nomark _)) (pw_and1 (pt_cmpR op_eq (pe_methD0 (pv 1)) pe_str (nomark _)))))
        (pss_one (ps_expr (pe_bm PySem.F.plainAttrs_list PySem.F.slot_list_append PySem.F.type_list_append mt_append (pv 8) (pa_cons (pe_fn KD hr rfl (pa_cons (pv 1) (pa_cons (pv 2) pa_nil))) pa_nil)))))
      (pss_cons (ps_expr (pe_methD0 (pv 1)))
      (pss_one (ps_ret (pe_tup (pa_cons (pv 2) (pa_cons (pv 3) (pa_cons (pv 4) (pa_cons (pv 5) (pa_cons (pv 6) (pa_cons (pv 7) (pa_cons (pe_callTy call_tuple_of (by rfl) B.tuple boot_tuple' (pa_cons (pv 8) pa_nil)) pa_nil))))))))))))))))))), ?_⟩
    obtain ⟨f3, fd3, M3, F3, B3⟩ := T.look
    obtain ⟨f4, fd4, M4, F4, B4⟩ := T.nend
    refine ⟨_, rfl, fun a dx na nd ne => ⟨a, dx, lt, ts, rfl, upd_same, ?_, h15, fun l H1 r1 b1 => ⟨rfl, ?_⟩⟩⟩
    · exact (same_mut na (same_new nd)) _ _ hl
    have s1 : Same H H1 := same_but na (same_mut na (same_new nd)) b1
    have naH := na
    clear b1
    refine ⟨_, rfl, a, l, ts, 0, true, "word", D.width, 4, 24, rfl, r1, hF.a0, hF.a1, hF.a2, by have := hF.bw; omega, hF.bw.1, hF.bw.2, fun H2 r2 b2 => ?_⟩
    refine ⟨_, rfl, a, l, ts, 3, true, "cells", D.cells, 4, 64, rfl, r2, hF.a3, hF.a4, hF.a5, by have := hF.bc; omega, hF.bc.1, hF.bc.2, fun H3 r3 b3 => ?_⟩
    refine ⟨_, rfl, a, l, ts, 6, true, "depth", D.depth, 0, 8, rfl, r3, hF.a6, hF.a7, hF.a8, by have := hF.bd; omega, Nat.zero_le _, hF.bd, fun H4 r4 b4 => ?_⟩
    have b14 := (b2.trans b3).trans b4
    refine ⟨_, rfl, a, l, ts, 9, true, "places", D.places, 1, 4, rfl, r4, hF.a9, hF.pn, hF.pe, hF.bp.1, hF.bp.2, by decide, fun pp H5 r5 b5 np5 e5 => ?_⟩
    refine ⟨_, rfl, a, l, ts, 9 + 2 + D.places.length, true, "marks", D.marks, 0, 3, rfl, r5, ?_, ?_, ?_, Nat.zero_le _, hF.bm, by decide, fun pm H6 r6 b6 np6 e6 => ?_⟩
    · exact hF.m9
    · rw [show 9 + 2 + D.places.length + 1 = 12 + D.places.length by omega]; exact hF.mn
    · rw [show 9 + 2 + D.places.length + 1 + D.marks.length = 12 + D.places.length + D.marks.length by omega]; exact hF.me
    obtain ⟨dx5, ho5⟩ := r5.ob
    have e5' := (b6.kt ho5) _ _ e5
    refine ⟨_, rfl, a, l, ts, 9 + 2 + D.places.length + 2 + D.marks.length, true, "gate", D.gates, 0, 1, rfl, r6, ?_, ?_, ?_, Nat.zero_le _, hF.bg, by decide, fun pg H7 r7 b7 np7 e7 => ?_⟩
    · rw [show 9 + 2 + D.places.length + 2 + D.marks.length = 13 + D.places.length + D.marks.length by omega]; exact hF.g9
    · rw [show 9 + 2 + D.places.length + 2 + D.marks.length + 1 = 14 + D.places.length + D.marks.length by omega]; exact hF.gn
    · rw [show 9 + 2 + D.places.length + 2 + D.marks.length + 1 + D.gates.length = 14 + D.places.length + D.marks.length + D.gates.length by omega]; exact hF.ge
    obtain ⟨dx6, ho6⟩ := r6.ob
    have e5'' := (b7.kt ho6) _ _ e5'
    have e6' := (b7.kt ho6) _ _ e6
    rw [show 9 + 2 + D.places.length + 2 + D.marks.length + 2 + D.gates.length = 15 + D.places.length + D.marks.length + D.gates.length by omega] at r7
    have b17 : ButO a H1 H7 := ((b14.trans b5).trans b6).trans b7
    have hks := hF.ks
    have hbk := hF.bk
    generalize 15 + D.places.length + D.marks.length + D.gates.length = k0 at *
    obtain ⟨x0, rest0, hk0⟩ : ∃ x r, D.kinds = x :: r := by
      cases hh : D.kinds with
      | nil => rw [hh] at hbk; simp at hbk
      | cons x r => exact ⟨x, r, rfl⟩
    rw [hk0] at hks hbk
    obtain ⟨hK0, hks'⟩ := hks
    refine ⟨_, rfl, _, rfl, a, l, ts, k0, true, .int D.width, x0, rfl, r7, hK0, fun u0 H8 r8 b8 hu0 => ?_⟩
    obtain ⟨dx7, ho7⟩ := r7.ob
    have kk8 := b8.kt ho7
    refine ⟨(by show 1 ≤ sizeLine; decide), fun lk nk => ?_⟩
    have s9 := same_new (o := .lst [u0]) nk
    have b19 : ButO a H1 (upd H8 lk (.lst [u0])) := (b17.trans b8).same s9
    obtain ⟨dx8, ho8⟩ := r8.ob
    obtain ⟨dx1, ho1⟩ := r1.ob
    have nkH1 : H1 lk = none := free_of (b17.trans b8) ho8 nk
    have lka : lk ≠ a := by
      rintro rfl
      rw [ho8] at nk
      cases nk
    have lkl : lk ≠ l := fun z => by
      have := r8.tk
      rw [← z, nk] at this
      cases this
    have I0 : KI C H1 a l ts D.kinds [x0] rest0 lk pp pm pg D (upd H8 lk (.lst [u0])) := ⟨hk0, ⟨_, r8.same s9, hks'⟩, b19, nkH1, lka, lkl, s9 _ _ (kk8 _ _ e5''), s9 _ _ (kk8 _ _ e6'), s9 _ _ (kk8 _ _ e7), [u0], upd_same, rfl, .cons (hu0.kt (kt_same s9)) .nil⟩
    generalize upd H8 lk (.lst [u0]) = H9 at *
    refine ⟨fun m σ H' => ∃ done rest, m = rest.length ∧ σ = [some (.ref lt), some (.ref a), some (.int D.width), some (.int D.cells), some (.int D.depth), some (.ref pp), some (.ref pm), some (.ref pg), some (.ref lk)] ∧ KI C H1 a l ts D.kinds done rest lk pp pm pg D H', ⟨_, [x0], rest0, rfl, rfl, I0⟩, ?_⟩
    rintro m σ Ha ⟨done, rest, rfl, rfl, I⟩
    obtain ⟨us, ek, lu, pu⟩ := I.ls
    obtain ⟨k, rk, hkr⟩ := I.rd
    obtain ⟨dxa, hoa⟩ := rk.ob
    have hall : done.length + rest.length ≤ 8 := by
      have := congrArg List.length I.sp
      rw [List.length_append, hk0] at this
      simp only [List.length_cons] at this hbk
      omega
    cases rest with
    | cons x r =>
      obtain ⟨hKx, hkr'⟩ := hkr
      have hlt : done.length < 8 := by simp only [List.length_cons] at hall; omega
      refine ⟨_, rfl, lk, _, rfl, .inl (SqL.of ek), _, _, rfl, rfl, _, rfl, iteA (decide_eq_true (by rw [lu]; omega)) ?_⟩
      refine ⟨_, rfl, a, dxa, C, f3, _, fd3, 1, ["self"], _, rfl, hoa, rfl, T.cl, M3, F3, hr1, B3, a, l, ts, k, true, "kind", rfl, rk, hKx.t0, rfl, _, rfl, iteA (by decide +kernel) ?_⟩
      refine ⟨fun σ' H' => σ' = [some (.ref lt), some (.ref a), some (.int D.width), some (.int D.cells), some (.int D.depth), some (.ref pp), some (.ref pm), some (.ref pg), some (.ref lk)] ∧ KI C H1 a l ts D.kinds (done ++ [x]) r lk pp pm pg D H', fun σ' H' ⟨e1, e2⟩ => ⟨r.length, by simp, done ++ [x], r, rfl, e1, e2⟩, ?_⟩
      refine ⟨_, rfl, .inl ⟨rfl, _, SqL.of ek⟩, _, rfl, _, rfl, a, l, ts, k, true, .int D.width, x, rfl, rk, hKx, fun u Hb rb bb hu => ?_⟩
      have kb := bb.kt hoa
      have eb := bb _ _ ek I.la
      have k2 := kt_ls (ys := us ++ [u]) eb
      refine ⟨lk, us, _, rfl, rfl, eb, by rw [lu]; omega, rfl, ?_⟩
      refine ⟨by rw [I.sp, List.append_assoc]; rfl, ⟨_, ⟨?_, ?_, rb.le⟩, hkr'⟩, ?_, I.nk, I.la, I.ll, k2 _ _ (kb _ _ I.ep), k2 _ _ (kb _ _ I.em), k2 _ _ (kb _ _ I.eg), us ++ [u], upd_same, by simp [lu], psnoc (hu.kt k2) (pmap (fun _ _ h => (h.kt kb).kt k2) pu)⟩
      · obtain ⟨dxb, hob⟩ := rb.ob
        exact ⟨dxb, by rw [upd_ne I.la.symm]; exact hob⟩
      · rw [upd_ne I.ll.symm]
        exact rb.tk
      · intro b o e nb
        by_cases h : b = lk
        · rw [h, I.nk] at e
          cases e
        · rw [upd_ne h]
          exact bb _ _ (I.bt _ _ e nb) nb
    | nil =>
      have hkE : k = ts.length := hkr
      have hdone : D.kinds = done := by rw [I.sp, List.append_nil]
      have lend : (tz ts)[k]? = some "" := by rw [hkE]; simp [tz]
      have nke : ("" : Str) ≠ ("kind" : Str) := by decide +kernel
      have sH : Same H Ha := same_but naH s1 I.bt
      by_cases h8 : done.length < 8
      · refine ⟨_, rfl, lk, _, rfl, .inl (SqL.of ek), _, _, rfl, rfl, _, rfl, iteA (decide_eq_true (by rw [lu]; omega)) ?_⟩
        refine ⟨_, rfl, a, dxa, C, f3, _, fd3, 1, ["self"], _, rfl, hoa, rfl, T.cl, M3, F3, hr1, B3, a, l, ts, k, true, "", rfl, rk, lend, rfl, _, rfl, iteB (by decide +kernel) ?_⟩
        refine ⟨_, rfl, a, dxa, C, f4, _, fd4, 1, ["self"], _, rfl, hoa, rfl, T.cl, M4, F4, hr1, B4, a, l, ts, k, rfl, rk, hkE, ?_⟩
        refine ⟨_, rfl, _, rfl, _, rfl, _, rfl, _, rfl, _, rfl, _, rfl, lk, us, rfl, .inl ⟨SqL.of ek, fun pk npk => ⟨(by show 7 ≤ sizeLine; decide), fun pt npt => ?_⟩⟩⟩
        have s10 := same_new (o := .tup us) npk
        have s11 := same_new (o := .tup [.int D.width, .int D.cells, .int D.depth, .ref pp, .ref pm, .ref pg, .ref pk]) npt
        have s12 := s10.trans s11
        exact q _ _ (sH.trans s12) ⟨pt, pp, pm, pg, pk, us, rfl, upd_same, s12 _ _ I.ep, s12 _ _ I.em, s12 _ _ I.eg, s11 _ _ upd_same, by rw [hdone]; exact pmap (fun _ _ h => h.kt (kt_same s12)) pu⟩
      · refine ⟨_, rfl, lk, _, rfl, .inl (SqL.of ek), _, _, rfl, rfl, _, rfl, iteB (decide_eq_false (by rw [lu]; omega)) (iteF ?_)⟩
        refine ⟨_, rfl, a, dxa, C, f4, _, fd4, 1, ["self"], _, rfl, hoa, rfl, T.cl, M4, F4, hr1, B4, a, l, ts, k, rfl, rk, hkE, ?_⟩
        refine ⟨_, rfl, _, rfl, _, rfl, _, rfl, _, rfl, _, rfl, _, rfl, lk, us, rfl, .inl ⟨SqL.of ek, fun pk npk => ⟨(by show 7 ≤ sizeLine; decide), fun pt npt => ?_⟩⟩⟩
        have s10 := same_new (o := .tup us) npk
        have s11 := same_new (o := .tup [.int D.width, .int D.cells, .int D.depth, .ref pp, .ref pm, .ref pg, .ref pk]) npt
        have s12 := s10.trans s11
        exact q _ _ (sH.trans s12) ⟨pt, pp, pm, pg, pk, us, rfl, upd_same, s12 _ _ I.ep, s12 _ _ I.em, s12 _ _ I.eg, s11 _ _ upd_same, by rw [hdone]; exact pmap (fun _ _ h => h.kt (kt_same s12)) pu⟩
end
end L3
namespace L3
open PySem L2
def KvR (H : Hp) (kv : Key × V) (x : Str × Str) : Prop := kv.1 = Sum.inr x.1 ∧ ∃ p sl, kv.2 = .ref p ∧ H p = some (.tup [.str x.2, sl])
def NmI (H : Hp) (d : Addr) (ks : List (Str × Str)) : Prop := ∃ kvs, H d = some (.dK kvs) ∧ Paired (KvR H) kvs ks
theorem KvR.kt {H H' : Hp} (k : TupK H H') {kv : Key × V} {x : Str × Str} (h : KvR H kv x) : KvR H' kv x := let ⟨a, p, sl, b, c⟩ := h; ⟨a, p, sl, b, k _ _ c⟩
theorem kt_dk {H : Hp} {l : Addr} {xs ys : List (Key × V)} (e : H l = some (.dK xs)) : TupK H (upd H l (.dK ys)) := fun b us h => by
  rw [upd_ne]
  · exact h
  · rintro rfl
    rw [e] at h
    cases h
theorem val_no {H : Hp} : ∀ {kvs : List (Key × V)} {ks : List (Str × Str)}, Paired (KvR H) kvs ks → ∀ {z : Str}, z ∉ ks.map (·.1) → valV kvs (Sum.inr z) = none
  | _, _, .nil, _, _ => valV_nil
  | _, _, .cons (a := kv) (b := x) h t, z, hz => by
    rw [valV_neg]
    · exact val_no t (fun m => hz (List.mem_cons_of_mem _ m))
    · intro e
      rw [h.1] at e
      have := Sum.inr.inj e
      exact hz (by rw [List.map_cons, this]; exact List.mem_cons_self)
theorem val_yes {H : Hp} : ∀ {kvs : List (Key × V)} {ks : List (Str × Str)}, Paired (KvR H) kvs ks → ∀ {z s : Str}, (z, s) ∈ ks → (ks.map (·.1)).Nodup → ∃ p sl, valV kvs (Sum.inr z) = some (.ref p) ∧ H p = some (.tup [.str s, sl])
  | _, _, .nil, _, _, m, _ => by cases m
  | _, _, .cons (a := kv) (b := x) h t, z, s, m, nd => by
    rw [List.map_cons, List.nodup_cons] at nd
    rcases List.mem_cons.mp m with e | m'
    · obtain ⟨e1, p, sl, e2, e3⟩ := h
      subst e
      refine ⟨p, sl, ?_, e3⟩
      rw [valV_pos e1, e2]
    · have hne : ¬ kv.1 = Sum.inr z := by
        intro e
        rw [h.1] at e
        have := Sum.inr.inj e
        exact nd.1 (by rw [this]; exact List.mem_map.mpr ⟨(z, s), m', rfl⟩)
      rw [valV_neg hne]
      exact val_yes t m' nd.2
def spAddName : Sp := fun vs H Q _ => ∃ d ks nm st sl, vs = [.ref d, .str nm, .str st, sl] ∧ NmI H d ks ∧ nm ∉ ks.map (·.1) ∧ ks.length ≤ 20 ∧ ∀ H', NmI H' d (ks ++ [(nm, st)]) → ButO d H H' → Q .non H'
def spNeedKnown (K : PySem.W.Frag) : Sp := fun vs H Q _ => ∃ d ks nm st p xs, vs = [.ref d, .str nm, .ref p] ∧ NmI H d ks ∧ (nm, st) ∈ ks ∧ (ks.map (·.1)).Nodup ∧ (SqL K H p (strsV xs) ∨ SqT K H p (strsV xs)) ∧ st ∈ xs ∧ ∀ q sl H', Same H H' → H' q = some (.tup [.str st, sl]) → Q (.ref q) H'
section
variable {P : Program} {w : World} {K : PySem.W.Frag} {mg : Str → Option Value} {base : Heap}
theorem scAddName : FnScope ["names", "name", "sort", "sel"] ["names", "name", "sort", "sel"] (defScope sAddName) := ⟨rfl, rfl, rfl, by decide +kernel, rfl, by decide +kernel, by decide +kernel⟩
set_option maxHeartbeats 1000000 in
theorem ok_addName {f : Addr} {fd : FuncData} (F : Fun K "add_name" "add_name" sAddName f fd) : FnOk P w K mg base CX0 1 f fd ["names", "name", "sort", "sel"] spAddName := by
  refine F.ok scAddName (fun vs H Q E h => ?_) (fun cdv A outer s H vs Q E hr h => ?_)
  · obtain ⟨d, ks, nm, st, sl, rfl, _⟩ := h
    rfl
  · obtain ⟨d, ks, nm, st, sl, rfl, hN, hm, hk, q⟩ := h
    have hu := hu_of hr
    refine ⟨_, pss_cons (ps_if (pt_cmp (pc_din hu (pv 1) (pv 0))) (pss_one ps_never) pss_nil) (pss_one (ps_dput hu (pv 0) (pv 1) (pe_tup (pa_cons (pv 2) (pa_cons (pv 3) pa_nil))) rfl)), ?_⟩
    obtain ⟨kvs, hd, hp⟩ := hN
    have hno := val_no hp hm
    have lk := hp.length
    have szz : (1000 : Nat) ≤ sizeLine := by decide
    have g : DGet H d (.str nm) none := by
      have := DGet.k (k := Sum.inr nm) hd
      rw [hno] at this
      exact this
    refine ⟨_, rfl, _, rfl, d, _, rfl, g, _, rfl, iteF ?_⟩
    refine ⟨_, rfl, _, rfl, (by show 2 ≤ sizeLine; decide), fun p np => ?_⟩
    have s1 := same_new (o := .tup [.str st, sl]) np
    have hd1 := s1 _ _ hd
    have ep : (upd H p (.tup [.str st, sl])) p = some (.tup [.str st, sl]) := upd_same
    generalize upd H p (.tup [V.str st, sl]) = H1 at *
    refine ⟨_, rfl, _, rfl, d, _, rfl, DPut.k (k := Sum.inr nm) hd1 (by omega), ?_⟩
    rw [putK_new _ hno]
    have k1 := kt_dk (ys := kvs ++ [(Sum.inr nm, V.ref p)]) hd1
    refine q _ ⟨_, upd_same, psnoc ⟨rfl, p, sl, rfl, k1 _ _ ep⟩ (pmap (fun _ _ h => (h.kt (kt_same s1)).kt k1) hp)⟩ (fun b o e nb => ?_)
    rw [upd_ne nb]
    exact s1 _ _ e
end
end L3
namespace L3
open PySem L2
def spNo : Sp := fun _ _ _ _ => False
theorem fnok_no {P : Program} {w : World} {K : PySem.W.Frag} {mg : Str → Option Value} {base : Heap} {k : Nat} {f : Addr} {fd : FuncData} {ps : List Str} : FnOk P w K mg base CX0 k f fd ps spNo := ⟨fun _ _ _ _ h => h.elim, fun _ _ _ _ _ _ _ _ _ _ _ _ _ h => h.elim⟩
def spEndOf : Sp := fun vs H Q _ => ∃ d e, vs = [d, e] ∧ NextV H e ∧ ∀ H', Same H H' → Q e H'
def spDeedOf : Sp := fun vs H Q _ => ∃ d u, vs = [d, u] ∧ LeafV H u ∧ ∀ u' H', Same H H' → LeafV H' u' → Q u' H'
section
variable {P : Program} {w : World} {K : PySem.W.Frag} {mg : Str → Option Value} {base : Heap}
theorem scNeedKnown : FnScope ["names", "name", "sorts", "sort", "sel"] ["names", "name", "sorts"] (defScope sNeedKnown) := ⟨rfl, rfl, rfl, by decide +kernel, rfl, by decide +kernel, by decide +kernel⟩
set_option maxHeartbeats 1000000 in
theorem ok_needKnown {f : Addr} {fd : FuncData} (F : Fun K "need_known" "need_known" sNeedKnown f fd) : FnOk P w K mg base CX0 1 f fd ["names", "name", "sorts"] (spNeedKnown K) := by
  refine F.ok scNeedKnown (fun vs H Q E h => ?_) (fun cdv A outer s H vs Q E hr h => ?_)
  · obtain ⟨d, ks, nm, st, p, xs, rfl, _⟩ := h
    rfl
  · obtain ⟨d, ks, nm, st, p, xs, rfl, hN, hm, hnd, hq, hs, q⟩ := h
    have hu := hu_of hr
    refine ⟨_, pss_cons (ps_if (pt_cmp (pc_dnotin hu (pv 1) (pv 0))) (pss_one ps_never) pss_nil)
      (pss_cons (ps_asg (pe_dget hu (pv 0) (pv 1) (fun _ _ => rfl)) (pg_tup rfl (pgs_cons (pg_name (i := 3) scNeedKnown.nd rfl (Or.inl rfl)) (pgs_cons (pg_name (i := 4) scNeedKnown.nd rfl (Or.inl rfl)) pgs_nil))))
      (pss_cons (ps_if (pt_cmpR op_notIn_seq (pv 3) (pv 2) rfl) (pss_one ps_never) pss_nil)
      (pss_one (ps_ret (pe_tup (pa_cons (pv 3) (pa_cons (pv 4) pa_nil))))))), ?_⟩
    obtain ⟨kvs, hd, hp⟩ := hN
    obtain ⟨p0, sl, hv, e0⟩ := val_yes hp hm hnd
    have g : DGet H d (.str nm) (some (.ref p0)) := by
      have := DGet.k (k := Sum.inr nm) hd
      rw [hv] at this
      exact this
    refine ⟨_, rfl, _, rfl, d, _, rfl, g, _, rfl, iteF ?_⟩
    refine ⟨_, rfl, _, rfl, d, _, rfl, g, p0, _, rfl, SqT.of e0, rfl, _, _, rfl, _, _, rfl, rfl, ?_⟩
    refine ⟨_, rfl, _, rfl, p, strsV xs, rfl, hq, rfl, flat_strs _, _, rfl, iteB ?_ ?_⟩
    · show (!inV (.str st) (strsV xs)) = false
      rw [inV_strs, List.contains_iff_mem.mpr hs]
      rfl
    · refine ⟨_, rfl, _, rfl, (by show 2 ≤ sizeLine; decide), fun t nt => ?_⟩
      exact q t sl _ (same_new nt) upd_same
theorem scEndOf : FnScope ["names", "end"] ["names", "end"] (defScope sEndOf) := ⟨rfl, rfl, rfl, by decide +kernel, rfl, by decide +kernel, by decide +kernel⟩
set_option maxHeartbeats 1000000 in
theorem ok_endOf {f : Addr} {fd : FuncData} (F : Fun K "end_of" "end_of" sEndOf f fd) : FnOk P w K mg base CX0 1 f fd ["names", "end"] spEndOf := by
  refine F.ok scEndOf (fun vs H Q E h => ?_) (fun cdv A outer s H vs Q E hr h => ?_)
  · obtain ⟨d, e, rfl, _⟩ := h
    rfl
  · obtain ⟨d, e, rfl, ⟨p, rfl, hp⟩, q⟩ := h
    refine ⟨_, pss_cons (ps_if (pt_cmpR op_in_seq (pe_ix ix_tup (pv 1) pe_int (fun _ _ => rfl)) (pe_tup (pa_cons pe_str (pa_cons pe_str pa_nil))) rfl) (pss_one ps_never) pss_nil) (pss_one (ps_ret (pv 1))), ?_⟩
    refine ⟨_, rfl, p, _, _, _, rfl, rfl, SqT.of hp, rfl, (by show 2 ≤ sizeLine; decide), fun t nt => ?_⟩
    have s1 := same_new (o := .tup [.str "go", .str "call"]) nt
    refine ⟨t, _, rfl, .inr (SqT.of upd_same), rfl, by decide +kernel, _, rfl, iteB (by decide +kernel) ?_⟩
    exact ⟨_, rfl, q _ s1⟩
theorem scDeedOf : FnScope ["names", "body", "test", "yes", "sets"] ["names", "body"] (defScope sDeedOf) := ⟨rfl, rfl, rfl, by decide +kernel, rfl, by decide +kernel, by decide +kernel⟩
theorem ndG : (["given", "names"] : List Str).Nodup := by decide +kernel
set_option maxHeartbeats 1000000 in
theorem ok_deedOf {f : Addr} {fd : FuncData} (F : Fun K "deed_of" "deed_of" sDeedOf f fd) (B : Bl mg) (EO : Fn P w K mg base "end_of" 1 ["names", "end"] spEndOf) (SO : Fn P w K mg base "set_of" 1 ["names", "given"] spNo) : FnOk P w K mg base CX0 2 f fd ["names", "body"] spDeedOf := by
  refine F.ok scDeedOf (fun vs H Q E h => ?_) (fun cdv A outer s H vs Q E hr h => ?_)
  · obtain ⟨d, u, rfl, _⟩ := h
    rfl
  · obtain ⟨d, u, rfl, ⟨p, t, e, rfl, hp, ht, he⟩, q⟩ := h
    refine ⟨_, pss_cons (ps_if (pt_cmpR op_eq (pe_ix ix_tup (pv 1) pe_int (fun _ _ => rfl)) pe_str (nomark _)) (pss_cons ps_never (pss_cons ps_never (pss_one ps_never))) pss_nil)
      (pss_cons (ps_set (i := 4) scDeedOf.nd rfl (Or.inl rfl) (pe_callTy call_tuple_of (by rfl) B.tuple boot_tuple' (pa_cons (pe_lc (N' := ["given", "names"]) (ix := [none, some 0]) (sc0 := defScope sDeedOf) (N := ["names", "body", "test", "yes", "sets"]) rfl (by decide +kernel) (pi_tup (pe_ix ix_tup (pv 1) pe_int (fun _ _ => rfl)))
          (fun C' cl s H fp => pg_name (i := 0) ndG rfl (Or.inl rfl) (.inr rfl)) (fun _ _ _ _ _ => pf_nil) (fun C' cl s H fp => pe_fn SO hr rfl (pa_cons (pv 1) (pa_cons (pv 0) pa_nil)))) pa_nil)))
      (pss_one (ps_ret (pe_tup (pa_cons pe_str (pa_cons (pv 4) (pa_cons (pe_fn EO hr rfl (pa_cons (pv 0) (pa_cons (pe_ix ix_tup (pv 1) pe_int (fun _ _ => rfl)) pa_nil))) pa_nil))))))), ?_⟩
    refine ⟨_, rfl, p, _, _, _, rfl, rfl, SqT.of hp, rfl, rfl, _, rfl, iteB (by decide +kernel) ?_⟩
    refine ⟨_, rfl, p, _, _, _, rfl, rfl, SqT.of hp, rfl, t, rfl, ⟨_, SqT.of ht⟩, ?_⟩
    refine lc_tup (K := K) (a := t) (xs := []) (fun i ys H' => H' = H ∧ ys = []) ⟨rfl, rfl⟩ (fun i ys H' hi ⟨a1, a2⟩ => by
        subst a1 a2
        exact ⟨SqT.of ht, Nat.zero_le _⟩) ?_ ?_
    · rintro i x ys H' hx _
      simp at hx
    · rintro ys H' ⟨rfl, rfl⟩ D hD
      have s1 := same_new (o := .lst []) hD
      have e1 : (upd H' D (.lst [])) D = some (.lst []) := upd_same
      generalize upd H' D (.lst ([] : List V)) = H1 at *
      refine ⟨D, _, rfl, .inl ⟨SqL.of e1, fun t2 n2 => ?_⟩⟩
      have s2 := same_new (o := .tup []) n2
      have e2 : (upd H1 t2 (.tup [])) t2 = some (.tup []) := upd_same
      generalize upd H1 t2 (.tup ([] : List V)) = H2 at *
      have s12 := s1.trans s2
      refine ⟨_, rfl, _, rfl, _, rfl, p, _, _, _, rfl, rfl, SqT.of (s12 _ _ hp), rfl, d, e, rfl, he.kt (kt_same s12), fun H3 s3 => ⟨(by show 3 ≤ sizeLine; decide), fun pt npt => ?_⟩⟩
      have s4 := same_new (o := .tup [.str "leaf", .ref t2, e]) npt
      exact q _ _ ((s12.trans s3).trans s4) ⟨pt, t2, e, rfl, upd_same, s4 _ _ (s3 _ _ e2), he.kt (kt_same ((s12.trans s3).trans s4))⟩
end
end L3
namespace L3
open PySem L2
def letL : List Nat := (List.range 26).map (97 + ·)
def letS : Str := "abcdefghijklmnopqrstuvwxyz"
theorem let_S : letS = S letL := by decide +kernel
theorem let_mem (c : Nat) (h : 97 ≤ c ∧ c ≤ 122) : c ∈ letL := by
  unfold letL
  refine List.mem_map.mpr ⟨c - 97, List.mem_range.mpr (by omega), by omega⟩
structure CstN (K : PySem.W.Frag) (mg : Str → Option Value) (aO : Addr) (tL tN : Tok) : Prop where
  own : mg "OWN_WORDS" = some (.ref aO)
  sq : ∀ H, SqT K H aO (strsV ownL)
  lets : mg "LETTERS" = some (.str letS tL)
  lng : mg "LONGEST_NAME" = some (.int 8 tN)
section
variable {P : Program} {w : World} {K : PySem.W.Frag} {mg : Str → Option Value} {base : Heap}
theorem scName : FnScope ["thing"] ["thing"] (defScope sName) := ⟨rfl, rfl, rfl, by decide +kernel, rfl, by decide +kernel, by decide +kernel⟩
theorem ndSg : (["sign"] : List Str).Nodup := by decide +kernel
set_option maxHeartbeats 1000000 in
theorem ok_name {f aO : Addr} {fd : FuncData} {tL tN : Tok} (F : Fun K "is_name" "is_name" sName f fd) (T : Bl mg) (C : CstN K mg aO tL tN) : FnOk P w K mg base CX0 1 f fd ["thing"] spNm := by
  refine F.ok scName (fun vs H Q E h => ?_) (fun cdv A outer s H vs Q E hr h => ?_)
  · obtain ⟨z, rfl, _⟩ := h
    rfl
  · obtain ⟨z, rfl, ⟨hno, h1, h8, hc⟩, q⟩ := h
    refine ⟨_, pss_cons (ps_if (PW.pt (pw_or (pt_not (pt_val (pe_callB (isi_ty (T := "str")) (by rfl) T.isinstance boot_isi (pa_cons (pv 0) (pa_cons (pe_ty (by rfl) T.str boot_str') pa_nil)))))
        (pw_or1 (pt_cmpR op_in_seq (pv 0) (pe_glob (v := .ref aO) rfl C.own rfl) rfl)))) (pss_one (ps_ret pe_bl)) pss_nil)
      (pss_one (ps_ret (pe_and (pe_chain op_le op_le pe_int (pe_callB call_len_str (by rfl) T.len PySem.boot_len (pa_cons (pv 0) pa_nil)) (pe_glob (v := .int 8) rfl C.lng ⟨_, rfl⟩))
        (pe_one (pe_callB (call_all rfl) (by rfl) T.all boot_all' (pa_cons (pe_lc (N' := ["sign"]) (ix := [none]) (sc0 := defScope sName) (N := ["thing"]) rfl (by decide +kernel) (pi_str (pv 0))
          (fun C' cl s H fp => pg_name (i := 0) ndSg rfl (Or.inl rfl) (.inr rfl)) (fun _ _ _ _ _ => pf_nil) (fun C' cl s H fp => pe_cmpR op_in_str (pv 0) (pe_glob (v := .str letS) rfl C.lets ⟨_, rfl⟩) rfl)) pa_nil)))))), ?_⟩
    have ez : z = S z.cps.toList := S_of z
    have zl : z.length = z.cps.toList.length := by show z.cps.size = _; simp
    generalize hl : z.cps.toList = l at *
    subst ez
    rw [S_len] at h1 h8
    have sz : (100000 : Nat) ≤ sizeLine := by decide
    refine ⟨_, rfl, _, _, _, rfl, .str _, rfl, _, rfl, iteF ?_⟩
    refine ⟨_, rfl, aO, strsV ownL, rfl, .inr (C.sq H), rfl, flat_strs _, _, rfl, iteB ?_ ?_⟩
    · show inV (.str (S l)) (strsV ownL) = false
      rw [inV_strs]
      exact Bool.eq_false_iff.mpr fun e => hno (List.contains_iff_mem.mp e)
    · refine ⟨_, rfl, S l, rfl, (by rw [S_len]; omega), _, _, rfl, rfl, _, rfl, ?_⟩
      rw [S_len]
      refine iteA (decide_eq_true (by omega)) ⟨_, _, rfl, rfl, _, rfl, iteA (decide_eq_true (by omega)) ⟨_, rfl, l, rfl, ?_⟩⟩
      refine lc_str (fun i ys H' => ys = (List.replicate i true).map V.bl ∧ Same H H') ⟨rfl, Same.refl _⟩ (fun i ys H' hi ⟨e, _⟩ => by rw [e, List.length_map, List.length_replicate]; omega) ?_ ?_
      · rintro i ys H' hi ⟨rfl, s'⟩
        refine ⟨trivial, tAny_T ?_⟩
        refine ⟨_, rfl, S [l[i]], _, rfl, rfl, ?_⟩
        rw [let_S, in_code, decide_eq_true (let_mem _ (hc _ (List.getElem_mem hi)))]
        refine Nx.mk hi ⟨?_, s'⟩
        rw [List.replicate_succ', List.map_append]
        rfl
      · rintro ys H' ⟨rfl, s'⟩ D hD
        refine ⟨D, List.replicate l.length true, rfl, SqL.of upd_same, ?_⟩
        have := q _ (s'.trans (same_new (o := .lst ((List.replicate l.length true).map V.bl)) hD))
        have ea : (List.replicate l.length true).all id = true := by simp
        rw [ea]
        exact this
end
end L3
namespace L3
open PySem L2
def dg (n : Nat) : List Nat := (Nat.toDigits 10 n).map Char.toNat
theorem dg_lt {n : Nat} (h : n < 10) : dg n = [48 + n] := by
  unfold dg
  rw [Nat.toDigits_of_lt_base h]
  have : ∀ d : Nat, d < 10 → [Nat.digitChar d].map Char.toNat = [48 + d] := by decide
  exact this n h
theorem dg_ge {n : Nat} (h : 10 ≤ n) : dg n = dg (n / 10) ++ [48 + n % 10] := by
  have hm : n % 10 < 10 := Nat.mod_lt n (by decide)
  have t : Nat.toDigits 10 (n / 10) ++ Nat.toDigits 10 (n % 10) = Nat.toDigits 10 (10 * (n / 10) + n % 10) := Nat.toDigits_append_toDigits (by decide) (by omega) hm
  rw [Nat.div_add_mod] at t
  rw [← dg_lt hm]
  unfold dg
  rw [← t, List.map_append]
theorem dg_all (n : Nat) : ∀ c ∈ dg n, 48 ≤ c ∧ c ≤ 57 := by
  induction n using Nat.strongRecOn with
  | _ n ih =>
    by_cases h : n < 10
    · rw [dg_lt h]
      intro c hc
      rw [List.mem_singleton.mp hc]
      omega
    · rw [dg_ge (by omega)]
      intro c hc
      rcases List.mem_append.mp hc with hc | hc
      · exact ih (n / 10) (by omega) c hc
      · rw [List.mem_singleton.mp hc]
        omega
theorem dg_len (n : Nat) : 1 ≤ (dg n).length ∧ ∀ k, 1 ≤ k → n < 10 ^ k → (dg n).length ≤ k := by
  induction n using Nat.strongRecOn with
  | _ n ih =>
    by_cases h : n < 10
    · rw [dg_lt h]
      exact ⟨by simp, fun k hk _ => by simpa using hk⟩
    · rw [dg_ge (by omega)]
      obtain ⟨a, b⟩ := ih (n / 10) (by omega)
      refine ⟨by rw [List.length_append]; simp, fun k hk hn => ?_⟩
      rw [List.length_append]
      have hk2 : 2 ≤ k := by
        rcases (by omega : k = 1 ∨ 2 ≤ k) with rfl | z
        · simp at hn
          omega
        · exact z
      have := b (k - 1) (by omega) (by
        have e : 10 ^ k = 10 ^ (k - 1) * 10 := by rw [← Nat.pow_succ]; congr 1; omega
        rw [e] at hn
        exact Nat.div_lt_of_lt_mul (by rw [Nat.mul_comm]; exact hn))
      simp
      omega
theorem dg_head (n : Nat) (h1 : 1 ≤ n) : (dg n)[0]? ≠ some 48 := by
  induction n using Nat.strongRecOn with
  | _ n ih =>
    by_cases h : n < 10
    · rw [dg_lt h]
      simp
      omega
    · rw [dg_ge (by omega)]
      have hl := (dg_len (n / 10)).1
      rw [List.getElem?_append_left (by omega)]
      exact ih (n / 10) (by omega) (by omega)
theorem str_dg (n : Nat) : (toString (n : Int) : Str) = S (dg n) := by
  have := PySem.W.KIN.signs_num n
  have e := S_of (toString (n : Int) : Str)
  rw [e]
  congr 1
def figL : List Nat := (List.range 10).map (48 + ·)
def figS : Str := "0123456789"
theorem fig_S : figS = S figL := by decide +kernel
theorem fig_mem (c : Nat) (h : 48 ≤ c ∧ c ≤ 57) : c ∈ figL := List.mem_map.mpr ⟨c - 48, List.mem_range.mpr (by omega), by omega⟩
section
variable {X : Cx}
theorem call_intNum : CallR X (.type "int") (fun xs H Q => ∃ n : Nat, xs = [.str (toString (n : Int) : Str)] ∧ n < 1000000000 ∧ Q (.int n) H) := by
  intro pins s σ H xs us Q I r h
  obtain ⟨n, rfl, hn, q⟩ := h
  obtain ⟨u, rfl, rx⟩ := vals1 r
  obtain ⟨t, rfl⟩ := rx
  exact PySem.W.KIN.call_num (by omega) (by omega) ⟨.int n, H, I.tok _, ⟨_, rfl⟩, q⟩
end
section
variable {P : Program} {w : World} {K : PySem.W.Frag} {mg : Str → Option Value} {base : Heap}
theorem scNumberOf : FnScope ["token"] ["token"] (defScope sNumberOf) := ⟨rfl, rfl, rfl, by decide +kernel, rfl, by decide +kernel, by decide +kernel⟩
set_option maxHeartbeats 1000000 in
theorem ok_numberOf {f : Addr} {fd : FuncData} {tF tM : Tok} (F : Fun K "number_of" "number_of" sNumberOf f fd) (T : Bl mg) (hF : mg "FIGURES" = some (.str figS tF)) (hM : mg "MOST_FIGURES" = some (.int 9 tM)) : FnOk P w K mg base CX0 1 f fd ["token"] spNumOf := by
  refine F.ok scNumberOf (fun vs H Q E h => ?_) (fun cdv A outer s H vs Q E hr h => ?_)
  · obtain ⟨n, rfl, _⟩ := h
    rfl
  · obtain ⟨n, rfl, hn, q⟩ := h
    refine ⟨_, pss_cons (ps_if (PW.pt (pw_or (pt_not (pt_chain op_le op_le pe_int (pe_callB call_len_str (by rfl) T.len PySem.boot_len (pa_cons (pv 0) pa_nil)) (pe_glob (v := .int 9) rfl hM ⟨_, rfl⟩)))
        (pw_or1 (pt_not (pt_val (pe_callB (call_all rfl) (by rfl) T.all boot_all' (pa_cons (pe_lc (N' := ["sign"]) (ix := [none]) (sc0 := defScope sNumberOf) (N := ["token"]) rfl (by decide +kernel) (pi_str (pv 0))
          (fun C' cl s H fp => pg_name (i := 0) ndSg rfl (Or.inl rfl) (.inr rfl)) (fun _ _ _ _ _ => pf_nil) (fun C' cl s H fp => pe_cmpR op_in_str (pv 0) (pe_glob (v := .str figS) rfl hF ⟨_, rfl⟩) rfl)) pa_nil))))))) (pss_one (ps_ret pe_non)) pss_nil)
      (pss_cons (ps_if (PW.pt (pw_and (pt_cmpR op_eq (pe_ix ix_str (pv 0) pe_int (fun _ _ => rfl)) pe_str (nomark _)) (pw_and1 (pt_cmpR op_gt (pe_callB call_len_str (by rfl) T.len PySem.boot_len (pa_cons (pv 0) pa_nil)) pe_int (nomark _))))) (pss_one (ps_ret pe_non)) pss_nil)
      (pss_one (ps_ret (pe_callTy call_intNum (by rfl) T.int PyProof.Rows.boot_int (pa_cons (pv 0) pa_nil))))), ?_⟩
    have es := str_dg n
    obtain ⟨l1, l9'⟩ := dg_len n
    have l9 := l9' 9 (by decide) (by omega)
    have sz : (100000 : Nat) ≤ sizeLine := by decide
    rw [es]
    refine ⟨_, rfl, S (dg n), rfl, (by rw [S_len]; omega), _, _, rfl, rfl, _, rfl, ?_⟩
    rw [S_len]
    refine iteA (decide_eq_true (by omega)) ⟨_, _, rfl, rfl, _, rfl, ?_⟩
    rw [decide_eq_true (show ((dg n).length : Int) ≤ 9 by omega)]
    refine iteF ⟨_, rfl, dg n, rfl, ?_⟩
    refine lc_str (fun i ys H' => ys = (List.replicate i true).map V.bl ∧ Same H H') ⟨rfl, Same.refl _⟩ (fun i ys H' hi ⟨e, _⟩ => by rw [e, List.length_map, List.length_replicate]; omega) ?_ ?_
    · rintro i ys H' hi ⟨rfl, s'⟩
      refine ⟨trivial, tAny_T ?_⟩
      refine ⟨_, rfl, S [(dg n)[i]], _, rfl, rfl, ?_⟩
      rw [fig_S, in_code, decide_eq_true (fig_mem _ (dg_all n _ (List.getElem_mem hi)))]
      refine Nx.mk hi ⟨?_, s'⟩
      rw [List.replicate_succ', List.map_append]
      rfl
    · rintro ys H' ⟨rfl, s'⟩ D hD
      have s2 := same_new (o := .lst ((List.replicate (dg n).length true).map V.bl)) hD
      refine ⟨D, List.replicate (dg n).length true, rfl, SqL.of upd_same, ?_⟩
      have ea : (List.replicate (dg n).length true).all id = true := by simp
      rw [ea]
      refine ⟨_, rfl, iteF ?_⟩
      refine ⟨_, rfl, S (dg n), 0, (dg n)[0], rfl, rfl, (by rw [S_len]; omega), ?_, rfl, _, rfl, ?_⟩
      · exact at_code (i := 0) (by omega)
      · by_cases hz : n = 0
        · subst hz
          have e00 : (dg 0)[0] = 48 := by simp [dg_lt (n := 0) (by decide)]
          refine iteA (decide_eq_true (by rw [e00]; decide +kernel)) ?_
          refine ⟨_, rfl, S (dg 0), rfl, (by rw [S_len]; omega), _, _, rfl, rfl, _, rfl, iteB (by decide +kernel) ?_⟩
          exact ⟨_, rfl, 0, by rw [str_dg], hn, q _ (s'.trans s2)⟩
        · have hd := dg_head n (by omega)
          refine iteB ?_ (iteF ?_)
          · refine decide_eq_false fun e => hd ?_
            have e2 := V.str.inj e
            have e3 : S [(dg n)[0]] = S [48] := e2.trans (by decide +kernel)
            have e4 : [(dg n)[0]] = [48] := by
              have := congrArg (fun z : Str => z.cps.toList) e3
              simpa [S] using this
            rw [List.getElem?_eq_getElem (by omega)]
            exact congrArg some (List.cons.inj e4).1
          · exact ⟨_, rfl, n, by rw [str_dg], hn, q _ (s'.trans s2)⟩
end
end L3
namespace L3
open PySem L2 TK
structure CstT (K : PySem.W.Frag) (mg : Str → Option Value) (aD : Addr) (tG tS : Tok) : Prop where
  gaps : mg "GAPS" = some (.str " \n" tG)
  sing : mg "SINGLE_SIGNS" = some (.str "(){}[],;+-&|^<=" tS)
  doub : mg "DOUBLE_SIGNS" = some (.ref aD)
  sq : ∀ H, SqT K H aD [.str "<<", .str ">>"]
  len : mg "len" = none
def vs (ts : List (List Nat)) : List V := ts.map fun t => V.str (S t)
def spSign : Sp := fun xs H Q _ => ∃ (l : List Nat) (i : Nat), xs = [.str (S l), .int i] ∧ i < l.length ∧ l.length ≤ 100000 ∧ Q (.str (S ((l.drop i).take (sgn (l.drop i))))) H
def spRun : Sp := fun xs H Q _ => ∃ (l : List Nat) (i : Nat), xs = [.str (S l), .int i] ∧ i < l.length ∧ l.length ≤ 100000 ∧ Q (.str (S ((l.drop i).take (run (l.drop i))))) H
def spToks : Sp := fun xs H Q _ => ∃ l : List Nat, xs = [.str (S l)] ∧ l.length ≤ 100000 ∧ ∀ (p : Addr) (H' : Hp), H p = none → H' p = some (.lst (vs (toks l))) → Same H H' → Q (.ref p) H'
theorem cut_two {l : List Nat} {i : Nat} (h : i < l.length) : cutL l (some (i : Int)) (some ((i : Int) + 2)) = (l.drop i).take 2 := by
  unfold cutL
  have e : ((i : Int) + 2) = ((i + 2 : Nat) : Int) := by omega
  rw [e, HT.sIx_nat, HT.sIx_nat, show min i l.length = i by omega]
  by_cases c : i + 2 ≤ l.length
  · rw [show min (i + 2) l.length - i = 2 by omega]
  · rw [List.take_of_length_le (by rw [List.length_drop]; omega), List.take_of_length_le (by rw [List.length_drop]; omega)]
theorem cut_to {l : List Nat} {i j : Nat} (h : j ≤ l.length) : cutL l (some (i : Int)) (some (j : Int)) = (l.drop i).take (j - i) := by
  unfold cutL
  rw [HT.sIx_nat, HT.sIx_nat, show min j l.length = j by omega]
  by_cases c : i ≤ l.length
  · rw [show min i l.length = i by omega]
  · rw [show min i l.length = l.length by omega, List.drop_length, List.drop_eq_nil_of_le (by omega)]
    simp
theorem drop_at {l : List Nat} {i : Nat} (h : i < l.length) : l.drop i = l[i] :: l.drop (i + 1) := List.drop_eq_getElem_cons h
theorem gaps_S : (" \n" : Str) = S [32, 10] := by decide +kernel
theorem sing_S : ("(){}[],;+-&|^<=" : Str) = S [40, 41, 123, 125, 91, 93, 44, 59, 43, 45, 38, 124, 94, 60, 61] := by decide +kernel
theorem ll_S : ("<<" : Str) = S [60, 60] := by decide +kernel
theorem gg_S : (">>" : Str) = S [62, 62] := by decide +kernel
theorem in_gaps (c : Nat) : decide (c ∈ [32, 10]) = gap c := by
  rw [Bool.eq_iff_iff, decide_eq_true_iff]
  unfold gap
  simp
theorem in_sing (c : Nat) : decide (c ∈ [40, 41, 123, 125, 91, 93, 44, 59, 43, 45, 38, 124, 94, 60, 61]) = single c := by
  rw [Bool.eq_iff_iff, decide_eq_true_iff]
  unfold single
  rw [List.contains_iff_mem]
theorem in_doub (t : List Nat) : inV (.str (S t)) [.str "<<", .str ">>"] = (decide (t = [60, 60]) || decide (t = [62, 62])) := by
  unfold inV
  rw [ll_S, gg_S]
  show ((S [60, 60] == S t) || ((S [62, 62] == S t) || false)) = _
  have e : ∀ u : List Nat, (S u == S t) = decide (t = u) := fun u => by
    rw [Bool.eq_iff_iff, decide_eq_true_iff, beq_iff_eq, S_inj]
    exact ⟨fun h => h.symm, fun h => h.symm⟩
  rw [e, e, Bool.or_false]
section
variable {P : Program} {w : World} {K : PySem.W.Frag} {mg : Str → Option Value} {base : Heap}
theorem scSign : FnScope ["text", "at"] ["text", "at"] (defScope sSign) := ⟨rfl, rfl, rfl, by decide +kernel, rfl, by decide +kernel, by decide +kernel⟩
theorem ok_sign {f aD : Addr} {fd : FuncData} {tG tS : Tok} (F : Fun K "sign_at" "sign_at" sSign f fd) (T : CstT K mg aD tG tS) : FnOk P w K mg base CX0 1 f fd ["text", "at"] spSign := by
  refine F.ok scSign (fun vs H Q E h => ?_) (fun cdv A outer s H vs Q E hr h => ?_)
  · obtain ⟨l, i, rfl, _⟩ := h
    rfl
  · obtain ⟨l, i, rfl, hi, hz, q⟩ := h
    have sz : (100000 : Nat) ≤ sizeLine := by decide
    refine ⟨_, pss_cons (ps_if (pt_cmpR op_in_seq (pe_slice sl_str (pv 0) (po_some (pv 1)) (po_some (pe_op op_add (pv 1) pe_int))) (pe_glob (v := .ref aD) rfl T.doub rfl) rfl) (pss_one (ps_ret (pe_slice sl_str (pv 0) (po_some (pv 1)) (po_some (pe_op op_add (pv 1) pe_int))))) pss_nil)
      (pss_cons (ps_if (pt_cmpR op_in_str (pe_ix ix_str (pv 0) (pv 1) (fun _ _ => rfl)) (pe_glob (v := .str "(){}[],;+-&|^<=") rfl T.sing ⟨_, rfl⟩) rfl) (pss_one (ps_ret (pe_ix ix_str (pv 0) (pv 1) (fun _ _ => rfl)))) pss_nil)
      (pss_one (ps_ret pe_str))), ?_⟩
    refine ⟨_, rfl, _, rfl, _, rfl, _, rfl, _, _, rfl, rfl, _, rfl, l, rfl, hz, ?_⟩
    rw [cut_two hi]
    refine ⟨aD, _, rfl, .inr (T.sq H), rfl, rfl, _, rfl, ?_⟩
    show if inV (.str (S ((l.drop i).take 2))) [.str "<<", .str ">>"] = true then _ else _
    have two : sgn (l.drop i) = if inV (.str (S ((l.drop i).take 2))) [.str "<<", .str ">>"] = true then 2 else if single l[i] = true then 1 else 0 := by
      rw [in_doub, drop_at hi]
      cases hd : l.drop (i + 1) with
      | nil => rw [sgn_one]; simp
      | cons d r =>
        rw [sgn_two]
        simp
    by_cases c : inV (.str (S ((l.drop i).take 2))) [.str "<<", .str ">>"] = true
    · rw [if_pos c] at two
      refine iteA c ?_
      refine ⟨_, rfl, _, rfl, _, rfl, _, rfl, _, _, rfl, rfl, _, rfl, l, rfl, hz, ?_⟩
      rw [cut_two hi]
      rw [two] at q
      exact q
    · rw [if_neg c] at two
      refine iteB (by simpa using c) ?_
      refine ⟨_, rfl, _, rfl, _, _, l[i], rfl, rfl, (by rw [S_len]; omega), at_code hi, _, _, rfl, rfl, _, rfl, ?_⟩
      rw [sing_S]
      have e := in_code l[i] [40, 41, 123, 125, 91, 93, 44, 59, 43, 45, 38, 124, 94, 60, 61]
      rw [in_sing] at e
      by_cases c2 : single l[i] = true
      · rw [if_pos c2] at two
        refine iteA (e.trans c2) ?_
        refine ⟨_, rfl, _, rfl, _, _, l[i], rfl, rfl, (by rw [S_len]; omega), at_code hi, ?_⟩
        rw [two, drop_at hi] at q
        exact q
      · rw [if_neg c2] at two
        refine iteB (e.trans (by simpa using c2)) ?_
        rw [two] at q
        exact q
end
section
variable {P : Program} {w : World} {K : PySem.W.Frag} {mg : Str → Option Value} {base : Heap}
theorem scRun : FnScope ["text", "at", "behind"] ["text", "at"] (defScope sRun) := ⟨rfl, rfl, rfl, by decide +kernel, rfl, by decide +kernel, by decide +kernel⟩
theorem take_nil {l : List Nat} {n : Nat} (h : n ≤ l.length) : l.take n = [] ↔ n = 0 := by
  constructor
  · intro e
    have := congrArg List.length e
    rw [List.length_take, List.length_nil] at this
    omega
  · intro e; rw [e, List.take_zero]
theorem ok_run {f aD : Addr} {fd : FuncData} {tG tS : Tok} (F : Fun K "run_at" "run_at" sRun f fd) (T : CstT K mg aD tG tS) (SG : Fn P w K mg base "sign_at" 1 ["text", "at"] spSign) : FnOk P w K mg base CX0 2 f fd ["text", "at"] spRun := by
  refine F.ok scRun (fun vs H Q E h => ?_) (fun cdv A outer s H vs Q E hr h => ?_)
  · obtain ⟨l, i, rfl, _⟩ := h
    rfl
  · obtain ⟨l, i, rfl, hi, hz, q⟩ := h
    have sz : (100000 : Nat) ≤ sizeLine := by decide
    have sl : (S l).length ≤ sizeLine := by rw [S_len]; omega
    refine ⟨_, pss_cons (ps_set (i := 2) scRun.nd rfl (Or.inl rfl) (pv 1))
      (pss_cons (ps_while PassesOwn.never (PW.pt (pw_and (pt_cmpR op_lt (pv 2) (pe_callB call_len_str (by rfl) T.len PySem.boot_len (pa_cons (pv 0) pa_nil)) (nomark _))
          (pw_and (pt_cmpR op_notin_str (pe_ix ix_str (pv 0) (pv 2) (fun _ _ => rfl)) (pe_glob (v := .str " \n") rfl T.gaps ⟨_, rfl⟩) rfl) (pw_and1 (pt_cmpR op_eq (pe_fn SG hr rfl (pa_cons (pv 0) (pa_cons (pv 2) pa_nil))) pe_str (nomark _))))))
        (pss_one (ps_aug (i := 2) scRun.nd rfl (Or.inl rfl) pe_int ip_add)))
      (pss_one (ps_ret (pe_slice sl_str (pv 0) (po_some (pv 1)) (po_some (pv 2)))))), ?_⟩
    refine ⟨_, rfl, ?_⟩
    refine ⟨fun m σ H' => ∃ k : Nat, σ = [some (.str (S l)), some (.int i), some (.int (i + k : Nat))] ∧ m = l.length - (i + k) ∧ i + k ≤ l.length ∧ run (l.drop i) = k + run (l.drop (i + k)) ∧ H' = H,
      ⟨_, 0, rfl, rfl, by omega, by rw [Nat.add_zero, Nat.zero_add], rfl⟩, ?_⟩
    rintro m σ H' ⟨k, rfl, rfl, hk, hrun, rfl⟩
    -- what comes behind the loop
    have out : run (l.drop (i + k)) = 0 → tRet (tSl (fun x lo hi H Q => ∃ l, x = .str (S l) ∧ l.length ≤ 100000 ∧ Q (.str (S (cutL l lo hi))) H) (tVar 0) (tPart (tVar 1)) (tPart (tVar 2))) { nx := fun _ H' => Q .non H', rt := Q } [some (.str (S l)), some (.int i), some (.int (i + k : Nat))] H' := fun e => by
      refine ⟨_, rfl, _, rfl, _, rfl, _, rfl, _, rfl, l, rfl, hz, ?_⟩
      rw [cut_to hk, show i + k - i = k by omega]
      rw [hrun, e, Nat.add_zero] at q
      exact q
    refine ⟨_, rfl, _, rfl, S l, rfl, sl, _, _, rfl, rfl, _, rfl, ?_⟩
    by_cases c : i + k < l.length
    · refine iteA (decide_eq_true (by rw [S_len]; omega)) ?_
      refine ⟨_, rfl, _, rfl, _, _, l[i + k], rfl, rfl, sl, at_code c, _, _, rfl, rfl, _, rfl, ?_⟩
      rw [gaps_S]
      have e := in_code l[i + k] [32, 10]
      rw [in_gaps] at e
      have e' : (!(!(Builtin.Str.occurrences (S [32, 10]) (S [l[i + k]]) 0 (S [32, 10]).length 1).isEmpty)) = !gap l[i + k] := by rw [e]
      have rc : run (l.drop (i + k)) = if (gap l[i + k] || sgn (l.drop (i + k)) != 0) = true then 0 else 1 + run (l.drop (i + k + 1)) := by
        rw [drop_at c, run_cons]
      cases g : gap l[i + k] with
      | true =>
        refine iteB (e'.trans (by rw [g]; rfl)) (iteF ?_)
        exact out (by rw [rc, g]; rfl)
      | false =>
        refine iteA (e'.trans (by rw [g]; rfl)) ?_
        refine ⟨_, rfl, _, rfl, l, i + k, rfl, c, hz, rfl, _, rfl, ?_⟩
        rw [nil_S]
        by_cases s0 : sgn (l.drop (i + k)) = 0
        · refine iteA (decide_eq_true (by rw [s0]; rfl)) ?_
          refine ⟨fun σ' H2 => σ' = [some (.str (S l)), some (.int i), some (.int (i + (k + 1) : Nat))] ∧ H2 = H', fun σ' H2 ⟨e1, e2⟩ => ⟨l.length - (i + (k + 1)), by omega, k + 1, e1, rfl, by omega, ?_, e2⟩, ?_⟩
          · rw [hrun, rc, g, s0]
            show k + (1 + run (l.drop (i + k + 1))) = _
            rw [Nat.add_assoc i k 1]
            omega
          · refine ⟨_, rfl, _, _, rfl, rfl, ?_, rfl⟩
            show [some (V.str (S l)), some (V.int i), some (V.int (((i + k : Nat) : Int) + 1))] = _
            rw [show (((i + k : Nat) : Int) + 1) = ((i + (k + 1) : Nat) : Int) by omega]
        · refine iteB (decide_eq_false ?_) ?_
          · intro z
            injection z with z'
            have := (take_nil (sgn_le (l.drop (i + k)))).mp (S_inj.mp z')
            exact s0 this
          · exact out (by rw [rc, g]; simp [s0])
    · refine iteB (decide_eq_false (by rw [S_len]; omega)) (iteF ?_)
      have : l.drop (i + k) = [] := List.drop_eq_nil_of_le (by omega)
      exact out (by rw [this]; rfl)
theorem scToks : FnScope ["text", "tokens", "at", "token"] ["text"] (defScope sTokens) := ⟨rfl, rfl, rfl, by decide +kernel, rfl, by decide +kernel, by decide +kernel⟩
theorem vs_app (a b : List (List Nat)) : vs (a ++ b) = vs a ++ vs b := List.map_append
theorem vs_len (a : List (List Nat)) : (vs a).length = a.length := List.length_map _
theorem ok_toks {f aD : Addr} {fd : FuncData} {tG tS : Tok} (F : Fun K "tokens_of" "tokens_of" sTokens f fd) (T : CstT K mg aD tG tS) (SG : Fn P w K mg base "sign_at" 1 ["text", "at"] spSign) (RN : Fn P w K mg base "run_at" 2 ["text", "at"] spRun) :
    FnOk P w K mg base CX0 3 f fd ["text"] spToks := by
  refine F.ok scToks (fun vs H Q E h => ?_) (fun cdv A outer s H vs Q E hr h => ?_)
  · obtain ⟨l, rfl, _⟩ := h
    rfl
  · obtain ⟨l, rfl, hz, q⟩ := h
    have hr1 : Room 1 _ := hr.mono (by decide)
    have sz : (100000 : Nat) < sizeLine := by decide
    have sl : (S l).length ≤ sizeLine := by rw [S_len]; omega
    refine ⟨_, pss_cons (ps_set (i := 1) scToks.nd rfl (Or.inl rfl) (pe_lst pa_nil))
      (pss_cons (ps_set (i := 2) scToks.nd rfl (Or.inl rfl) pe_int)
      (pss_cons (ps_while PassesOwn.never (pt_cmpR op_lt (pv 2) (pe_callB call_len_str (by rfl) T.len PySem.boot_len (pa_cons (pv 0) pa_nil)) (nomark _))
        (pss_one (ps_if (pt_cmpR op_in_str (pe_ix ix_str (pv 0) (pv 2) (fun _ _ => rfl)) (pe_glob (v := .str " \n") rfl T.gaps ⟨_, rfl⟩) rfl) (pss_one (ps_aug (i := 2) scToks.nd rfl (Or.inl rfl) pe_int ip_add))
          (pss_cons (ps_set (i := 3) scToks.nd rfl (Or.inl rfl) (pe_orS (pe_fn SG hr1 rfl (pa_cons (pv 0) (pa_cons (pv 2) pa_nil))) (pe_one (pe_fn RN hr rfl (pa_cons (pv 0) (pa_cons (pv 2) pa_nil))))))
          (pss_cons (ps_expr (pe_bm PySem.F.plainAttrs_list PySem.F.slot_list_append PySem.F.type_list_append mt_append (pv 1) (pa_cons (pv 3) pa_nil)))
          (pss_one (ps_aug (i := 2) scToks.nd rfl (Or.inl rfl) (pe_callB call_len_str (by rfl) T.len PySem.boot_len (pa_cons (pv 3) pa_nil)) ip_add)))))))
      (pss_one (ps_ret (pv 1))))), ?_⟩
    refine ⟨(by show 0 ≤ sizeLine; decide), fun p hp => ?_⟩
    refine ⟨fun m σ H' => ∃ (k : Nat) (ts : List (List Nat)) (v : Option V), σ = [some (.str (S l)), some (.ref p), some (.int k), v] ∧ m = l.length - k ∧ k ≤ l.length ∧ H' p = some (.lst (L3.vs ts)) ∧ Same H H' ∧ ts ++ toks (l.drop k) = toks l ∧ ts.length ≤ k,
      ⟨_, 0, [], none, rfl, rfl, by omega, upd_same, same_new hp, rfl, Nat.le_refl _⟩, ?_⟩
    rintro m σ H' ⟨k, ts, v, rfl, rfl, hk, g, s1, e, hl⟩
    refine ⟨_, rfl, _, rfl, S l, rfl, sl, _, _, rfl, rfl, _, rfl, ?_⟩
    by_cases c : k < l.length
    · refine iteA (decide_eq_true (by rw [S_len]; omega)) ?_
      refine ⟨fun σ' H2 => ∃ (k' : Nat) (ts' : List (List Nat)) (v' : Option V), σ' = [some (.str (S l)), some (.ref p), some (.int k'), v'] ∧ k < k' ∧ k' ≤ l.length ∧ H2 p = some (.lst (L3.vs ts')) ∧ Same H H2 ∧ ts' ++ toks (l.drop k') = toks l ∧ ts'.length ≤ k',
        fun σ' H2 ⟨k', ts', v', e1, e2, e3, e4, e5, e6, e7⟩ => ⟨l.length - k', by omega, k', ts', v', e1, rfl, e3, e4, e5, e6, e7⟩, ?_⟩
      refine ⟨_, rfl, _, rfl, _, _, l[k], rfl, rfl, sl, at_code c, _, _, rfl, rfl, _, rfl, ?_⟩
      rw [gaps_S]
      have ec := in_code l[k] [32, 10]
      rw [in_gaps] at ec
      cases gg : gap l[k] with
      | true =>
        refine iteA (ec.trans gg) ?_
        refine ⟨_, rfl, _, _, rfl, rfl, ?_⟩
        refine ⟨k + 1, ts, v, ?_, by omega, c, g, s1, ?_, by omega⟩
        · show [some (V.str (S l)), some (V.ref p), some (V.int ((k : Int) + 1)), v] = _
          rw [show ((k : Int) + 1) = ((k + 1 : Nat) : Int) by omega]
        · rw [← e, drop_at c, toks_gap gg]
      | false =>
        refine iteB (ec.trans gg) ?_
        refine ⟨_, rfl, _, rfl, l, k, rfl, c, hz, ?_⟩
        have dl : (l.drop k).length = l.length - k := List.length_drop
        have ol := one_le (l.drop k)
        have op : 0 < one (l.drop k) := by rw [drop_at c]; exact one_pos gg
        have tk : ts ++ [(l.drop k).take (one (l.drop k))] ++ toks (l.drop (k + one (l.drop k))) = toks l := by
          rw [← e, List.append_assoc, show l.drop (k + one (l.drop k)) = (l.drop k).drop (one (l.drop k)) by rw [List.drop_drop]]
          congr 1
          rw [drop_at c, toks_tok gg]
          rfl
        have tl : ((l.drop k).take (one (l.drop k))).length = one (l.drop k) := by rw [List.length_take]; omega
        have tz : ((l.drop k).take (sgn (l.drop k))).length ≤ 100000 := by rw [List.length_take]; omega
        refine ⟨_, rfl, tz, ?_⟩
        by_cases s0 : sgn (l.drop k) = 0
        · rw [if_pos ((take_nil (sgn_le _)).mpr s0)]
          refine ⟨_, rfl, _, rfl, l, k, rfl, c, hz, ?_⟩
          rw [show run (l.drop k) = one (l.drop k) from (if_pos s0).symm]
          refine ⟨_, rfl, .inl ⟨rfl, _, SqL.of g⟩, _, rfl, p, _, _, rfl, rfl, g, (by rw [vs_len]; omega), ?_⟩
          refine ⟨_, rfl, _, rfl, S ((l.drop k).take (one (l.drop k))), rfl, (by rw [S_len]; omega), _, _, rfl, rfl, ?_⟩
          refine ⟨k + one (l.drop k), ts ++ [(l.drop k).take (one (l.drop k))], some (.str (S ((l.drop k).take (one (l.drop k))))), ?_, by omega, by omega, ?_, same_mut hp s1, tk, by rw [List.length_append]; simp; omega⟩
          · show [some (V.str (S l)), some (V.ref p), some (V.int ((k : Int) + ((S ((l.drop k).take (one (l.drop k)))).length : Int))), some (V.str (S ((l.drop k).take (one (l.drop k)))))] = _
            rw [S_len, tl, show ((k : Int) + (one (l.drop k) : Int)) = ((k + one (l.drop k) : Nat) : Int) by omega]
          · rw [upd_same, vs_app]; rfl
        · rw [if_neg (fun z => s0 ((take_nil (sgn_le _)).mp z))]
          rw [show sgn (l.drop k) = one (l.drop k) from (if_neg s0).symm]
          refine ⟨_, rfl, .inl ⟨rfl, _, SqL.of g⟩, _, rfl, p, _, _, rfl, rfl, g, (by rw [vs_len]; omega), ?_⟩
          refine ⟨_, rfl, _, rfl, S ((l.drop k).take (one (l.drop k))), rfl, (by rw [S_len]; omega), _, _, rfl, rfl, ?_⟩
          refine ⟨k + one (l.drop k), ts ++ [(l.drop k).take (one (l.drop k))], some (.str (S ((l.drop k).take (one (l.drop k))))), ?_, by omega, by omega, ?_, same_mut hp s1, tk, by rw [List.length_append]; simp; omega⟩
          · show [some (V.str (S l)), some (V.ref p), some (V.int ((k : Int) + ((S ((l.drop k).take (one (l.drop k)))).length : Int))), some (V.str (S ((l.drop k).take (one (l.drop k)))))] = _
            rw [S_len, tl, show ((k : Int) + (one (l.drop k) : Int)) = ((k + one (l.drop k) : Nat) : Int) by omega]
          · rw [upd_same, vs_app]; rfl
    · refine iteB (decide_eq_false (by rw [S_len]; omega)) ?_
      have : k = l.length := by omega
      subst this
      rw [List.drop_length, toks_nil, List.append_nil] at e
      subst e
      exact ⟨_, rfl, q p H' hp g s1⟩
end
end L3
namespace L2
open PySem PySem.Spec PyProof.Rows
section
variable {X : Cx}
theorem call_dictK : CallR X (.type "dict") (fun xs H Q => ∃ (d : Addr) (kvs : List (Key × V)), xs = [.ref d] ∧ H d = some (.dK kvs) ∧ ∀ a, H a = none → Q (.ref a) (upd H a (.dK kvs))) := by
  intro pins s σ H xs us Q I r h
  obtain ⟨d, kvs, rfl, hd, q⟩ := h
  obtain ⟨u, rfl, rx⟩ := vals1 r
  cases rx
  obtain ⟨hz, hs, vs, rel, dd⟩ := dk_of I.hok hd
  refine PySem.kt_call_dict hs dd (by rw [← rel.length]; exact hz) fun h' hd' hsb => ?_
  have hk : ∀ b o, s.heap.get? b = some o → h'.get? b = some o := fun b o e => hsb.extBut b o (Nat.ne_of_lt (Heap.lt_size e)) (Heap.get?_push_of_some _ e)
  have hbig := I.big
  have e : s = { s with toks := s.toks } := by cases s; rfl
  refine ⟨.ref s.heap.objs.size, _, I.laid (t' := s.toks) (a := s.heap.objs.size) (o := .dK kvs) hk (Nat.le_refl _) ?_, rfl, q _ (I.hok.fresh (Nat.le_refl _))⟩
  exact dk_new hz (by
    have : ¬ s.heap.objs.size = sysModules := Nat.ne_of_gt hbig
    simpa using this) rel hd'
end
end L2
namespace PySem
open Sem (wp)
def tupIt (l : Addr) : Obj := { cls := .type "tuple_iterator", data := .fields #[.ref l, .int 0 0] }
def enumOver (it : Addr) : Obj := { cls := .type "enumerate", data := .fields #[.none, .bool false, .ref it, rawInt 0, .none, .none] }
theorem made_enum (l : Addr) (items : Array Value) (n : Nat) (od : Option Addr) (os : Array (Option Value)) : Meets (Builtin.«enumerate.__new__» ⟨[.type "enumerate", .ref l], []⟩) (fun _ R s =>
    s.heap.get? l = some { cls := .type "tuple", dict := od, data := .seq items n, slots := os } ∧ R (.ok (.ret (.ref (s.heap.push (tupIt l)).objs.size))) { s with heap := (s.heap.push (tupIt l)).push (enumOver s.heap.objs.size) }) :=
  .of_wp fun prog w A R s both => by
    rcases s with ⟨hp, gs, dr, tk, sys⟩
    have there := both.1
    have good := both.2
    have under := sub_enumerate
    have isT : hp.IsTuple l items := ⟨_, there, rfl, n, rfl⟩
    wp_walk using wpAny_loadPart' there
    refine wpAny_stack_any fun _ => wpAny_pure ?_
    split
    · rename_i c _ _ _ _ _
      rcases hb : (c == Value.type "enumerate") with _ | _ <;> (wp_walk using wpAny_loadPart' there, wpAny_pyIter_tuple isT; exact ⟨_, rfl, good⟩)
    · (wp_walk using wpAny_loadPart' there, wpAny_pyIter_tuple isT; exact ⟨_, rfl, good⟩)
section
variable {prog : Program} {w : World} {A : Around} {E : Value → Shared → Prop} {s : Shared}
theorem enum_of_tuple {l : Addr} {items : Array Value} {Q : Value → Shared → Prop} (isT : s.heap.IsTuple l items)
    (h : Q (.ref (s.heap.objs.size + 1)) { s with heap := (s.heap.push (tupIt l)).push (enumOver s.heap.objs.size) }) : wpAny (model prog w) A (call (.type "enumerate") [.ref l]) Q E s := by
  obtain ⟨o, there, isC, n, isD⟩ := isT
  cases o with
  | mk oc od odt osl =>
    dsimp only at isC isD
    subst isC isD
    have sz : (s.heap.push (tupIt l)).objs.size = s.heap.objs.size + 1 := Heap.size_push ..
    have lies : ((s.heap.push (tupIt l)).push (enumOver s.heap.objs.size)).get? (s.heap.objs.size + 1) = some (enumOver s.heap.objs.size) := sz ▸ Heap.get?_push_size (s.heap.push (tupIt l)) rfl
    refine callType_new F.called_enumerate (by decide) (F.typeCall_enumerate_1 _) (F.newCall_enumerate_1 _) (fun x => F.args_object_init_2 x _) F.entry_enumerate_new (made_enum l items n od osl) ⟨there, ?_⟩
    show _ ∧ _
    rw [sz]
    exact ⟨⟨_, lies, rfl⟩, h⟩
end
section
variable {prog : Program} {w : World} {A : Around} {E : Value → Shared → Prop} {s : Shared}
theorem nextOf_tuple_item {it t : Addr} {i : Nat} {items : Array Value} {x : Value} {Q : Value → Shared → Prop} (hit : s.heap.IsTupleIter it t i) (ht : s.heap.IsTuple t items) (hx : items[i]? = some x)
    (hQ : ∀ h', h'.IsTupleIter it t (i + 1) → Heap.SameBut it s.heap h' → Q x { s with heap := h' }) : wpAny (model prog w) A (Builtin.SmallTypes.nextOf (.ref it)) Q E s := by
  obtain ⟨o, ho, hc, hd⟩ := id hit
  obtain ⟨ol, hol, _, nl, hdl⟩ := ht
  unfold Builtin.SmallTypes.nextOf
  refine wpAny_bind (wpAny_callSpecial?_slot (name := Str.ofString "__next__") hit.typeIs F.slot_tuple_iterator_next
    (wpAny_call_entry F.slot_tuple_iterator_next hit.typeIs F.entry_tuple_iterator_next ?_ (F.args_tuple_iterator_next_1 _)))
  show wpAny _ _ (field (.ref it) 0 >>= _) _ _ s
  refine wpAny_bind (wpAny_field ho hd (x := .ref t) rfl ?_)
  show wpAny _ _ (if (Value.ref t == Value.none) = true then _ else _) _ _ s
  rw [if_neg (show ¬ ((Value.ref t == Value.none) = true) from Bool.false_ne_true)]
  show wpAny _ _ (field (.ref it) 1 >>= _) _ _ s
  refine wpAny_bind (wpAny_field ho hd (x := .int i 0) rfl ?_)
  show wpAny _ _ (seqItems? (.ref t) >>= _) _ _ s
  refine wpAny_bind (wpAny_seqItems hol hdl ?_)
  simp only [Int.toNat_natCast, hx]
  refine wpAny_bind (wpAny_setField ho hd (by simp) (wpAny_pure ⟨x, rfl, wpAny_pure (hQ _ ?_ (Heap.SameBut.update ..))⟩))
  exact ⟨_, Heap.get?_update_self _ ho (Obj.isFreed_of_fields (Obj.data_mapFields hd _)), (Obj.cls_mapFields ..).trans hc, by
    rw [Obj.data_mapFields hd]; simp [rawInt]⟩
theorem nextOf_tuple_end {it t : Addr} {i : Nat} {items : Array Value} {Q : Value → Shared → Prop} (hh : A.handled = none) (hit : s.heap.IsTupleIter it t i) (ht : s.heap.IsTuple t items) (hx : items[i]? = none)
    (hE : ∀ h' e, Heap.ExtBut it s.heap h' → (∃ o, h'.get? e = some o ∧ o.cls = .type "StopIteration") → E (.ref e) { s with heap := h' }) : wpAny (model prog w) A (Builtin.SmallTypes.nextOf (.ref it)) Q E s := by
  obtain ⟨o, ho, hc, hd⟩ := id hit
  obtain ⟨ol, hol, _, nl, hdl⟩ := ht
  unfold Builtin.SmallTypes.nextOf
  refine wpAny_bind (wpAny_callSpecial?_slot (name := Str.ofString "__next__") hit.typeIs F.slot_tuple_iterator_next
    (wpAny_call_entry F.slot_tuple_iterator_next hit.typeIs F.entry_tuple_iterator_next ?_ (F.args_tuple_iterator_next_1 _)))
  show wpAny _ _ (field (.ref it) 0 >>= _) _ _ s
  refine wpAny_bind (wpAny_field ho hd (x := .ref t) rfl ?_)
  show wpAny _ _ (if (Value.ref t == Value.none) = true then _ else _) _ _ s
  rw [if_neg (show ¬ ((Value.ref t == Value.none) = true) from Bool.false_ne_true)]
  show wpAny _ _ (field (.ref it) 1 >>= _) _ _ s
  refine wpAny_bind (wpAny_field ho hd (x := .int i 0) rfl ?_)
  show wpAny _ _ (seqItems? (.ref t) >>= _) _ _ s
  refine wpAny_bind (wpAny_seqItems hol hdl ?_)
  simp only [Int.toNat_natCast, hx]
  refine wpAny_bind (wpAny_rule (wpAny_bind (wpAny_setField ho hd (by simp) ?_)))
  show wpAny _ _ (newExc (.type "StopIteration") [] >>= _) _ _ _
  refine wpAny_bind ?_
  simp only [newExc, newTuple]
  refine wpAny_bind (wpAny_newObj_type ?_ (by size_fits))
  refine wpAny_bind (m := firstArgMember _ _) (wpAny_of_eq (a := Value.none) (by first | rfl | (simp only [firstArgMember]; rfl)) ?_)
  refine wpAny_newObj_type ?_ (by size_fits)
  simp only [raiseNew]
  refine wpAny_bind (wpAny_handled ?_)
  first | rw [show A.in1.handled = none from hh] | rw [hh]
  refine wpAny_bind (wpAny_pure (wpAny_throw ?_))
  exact hE _ _ (((Heap.SameBut.update ..).extBut.push _).push _) ⟨_, Heap.get?_push_size _ rfl, rfl⟩
end
theorem drawsTuple {prog : Program} {w : World} {A : Around} (hh : A.handled = none) (it l : Addr) (hne : l ≠ it) (items : Array Value) :
    Draws prog w A it [it, l] items.size (fun i v => items[i]? = some v) (fun i h => h.IsTupleIter it l i ∧ h.IsTuple l items) where
  live := fun _ _ st => let ⟨o, ho, _⟩ := st.1; ⟨o, ho⟩
  frame := fun _ _ _ st hk => ⟨let ⟨o, ho, r⟩ := st.1; ⟨o, hk it (by simp) o ho, r⟩, let ⟨o, ho, r⟩ := st.2; ⟨o, hk l (by simp) o ho, r⟩⟩
  item := fun i s Q E hi st hQ => by
    refine nextOf_tuple_item st.1 st.2 (x := items[i]) (by simp [hi]) fun h' hit' hs' => ?_
    exact hQ _ h' s.toks (by simp [hi]) ⟨hit', st.2.extBut hs'.extBut hne⟩ hs'
  done := fun s Q E st hE => nextOf_tuple_end hh st.1 st.2 (by simp) hE
end PySem
namespace L2
open PySem PySem.Spec PyProof.Rows
theorem itAt {h h' : Heap} {it l : Addr} {i : Nat} (a : h.IsTupleIter it l i) (k : ∀ o, h.get? it = some o → h'.get? it = some o) : h'.IsTupleIter it l i := let ⟨o, b, c⟩ := a; ⟨o, k o b, c⟩
theorem tupNe {h : Heap} {it l : Addr} {i : Nat} {items : Array Value} (t : h.IsTuple l items) (a : h.IsTupleIter it l i) : l ≠ it := by
  rintro rfl
  obtain ⟨o, x, c, _⟩ := t
  obtain ⟨o', x', c', _⟩ := a
  rw [x] at x'
  cases x'
  rw [c] at c'
  injection c' with z
  exact absurd z (by decide)
theorem enum_endT {prog : Program} {w : World} {A : Around} {E : Value → Shared → Prop} {s : Shared} {e it l : Addr} {i : Nat} {items : Array Value} {old : Value} {Q : Option Value → Shared → Prop} (hh : A.handled = none) (he : IsEnum s.heap e it i old) (h1 : s.heap.IsTupleIter it l i) (isT : s.heap.IsTuple l items) (hi : items.size ≤ i)
    (hQ : ∀ h', Heap.ExtBut it s.heap h' → Q none { s with heap := h' }) : wpAny (model prog w) A (pyNext (.ref e)) Q E s := by
  have hT : s.TypeIs (.ref e) "enumerate" := ⟨_, he, rfl⟩
  unfold pyNext
  refine wpAny_bind (wpAny_attempt (wpAny_callSpecial?_slot (name := Str.ofString "__next__") hT PySem.F.slot_enumerate_next (wpAny_call_entry PySem.F.slot_enumerate_next hT PySem.F.entry_enumerate_next ?_ (PySem.F.args_enumerate_next_1 _))))
  show wpAny _ _ (field (.ref e) 2 >>= _) _ _ _
  refine wpAny_bind (wpAny_field he rfl (x := .ref it) rfl ?_)
  refine wpAny_bind (PySem.nextOf_tuple_end hh h1 isT (Array.getElem?_eq_none hi) fun h' x he' hx' => ?_)
  obtain ⟨o, ho, hc⟩ := hx'
  refine wpAny_bind (wpAny_isInstance (T := "StopIteration") (b := true) ⟨o, ho, hc⟩ isSubtype_stop ?_)
  exact wpAny_pure (hQ _ he')
def IteT (K : PySem.W.Frag) (l : Addr) : It :=
  ⟨fun i H => ∃ xs x, SqT K H l xs ∧ xs[i]? = some x,
   fun i H v H' => ∃ T x, v = .ref T ∧ H T = none ∧ H' = upd H T (.tup [.int i, x]) ∧ ∀ xs, SqT K H l xs → xs[i]? = some x,
   fun i H => ∃ xs, SqT K H l xs ∧ xs.length ≤ i⟩
theorem turn_enumT {P : Program} {w : World} {K : PySem.W.Frag} {elts : List Expr} {kt : Nat} {tp : Pos} {e it l : Addr} (hne : e ≠ it) :
    Turn P w K (.Tuple elts kt tp) (IteT K l) [e, it] e (fun i h => (∃ old, IsEnum h e it i old) ∧ h.IsTupleIter it l i) where
  mem := by simp
  obj := fun i h st b hb => by
    obtain ⟨⟨old, he⟩, ⟨o1, h1, _, d1⟩⟩ := st
    simp at hb
    rcases hb with rfl | rfl
    · exact ⟨_, he, fun v q => by cases q⟩
    · exact ⟨_, h1, fun v q => by rw [d1] at q; cases q⟩
  keep := fun i h h' st k => by
    obtain ⟨⟨old, he⟩, h1⟩ := st
    exact ⟨⟨old, k e (by simp) _ he⟩, itAt h1 fun o q => k it (by simp) o q⟩
  item := by
    intro X hP hw hK hc i pins s σ H E I hf st hg
    subst hP hw hK
    obtain ⟨xs, x, hx, ex⟩ := hg
    obtain ⟨⟨old, he⟩, h1⟩ := st
    obtain ⟨its1, rv1, p1, z1⟩ := I.tuple hx
    obtain ⟨u1, eu1, ru1⟩ := rv1.get ex
    have isT : s.heap.IsTuple l its1.toArray := let ⟨o, a, b, n, c⟩ := p1; ⟨o, a, b, n, c⟩
    have nl : l ≠ it := tupNe isT h1
    have ne2 : e ∉ [it, l] := by
      intro m
      simp only [List.mem_cons, List.not_mem_nil, or_false] at m
      rcases m with m | m
      · exact hne m
      · subst m
        obtain ⟨o, a, b, _⟩ := isT
        rw [show s.heap.get? e = _ from he] at a
        cases a
        injection b with z
        exact absurd z (by decide)
    have hlt : i < its1.toArray.size := by
      have := (List.getElem?_eq_some_iff.mp eu1).1
      simpa using this
    refine wpAny_pyNext_enum_itemD (PySem.drawsTuple (A := X.A.in1) (show X.A.in1.handled = none from I.ok.hd hc) it l nl its1.toArray) he ⟨h1, isT⟩ hlt hne ne2 fun v h' tk px a1 a2' a3 a4 a5 => ⟨_, rfl, ?_⟩
    have evu : v = u1 := by
      have e2 : its1.toArray[i]? = some u1 := by simpa using eu1
      rw [e2] at px
      exact (Option.some.inj px).symm
    subst evu
    have a2 := a2'.1
    refine wpAny_letOwnedTupleGo_enum a1 fun h'' b1 b2 => ?_
    have hT : H s.heap.objs.size = none := I.hok.fresh (Nat.le_refl _)
    have low : ∀ b o, s.heap.get? b = some o → b ≠ s.heap.objs.size := fun b o q => Nat.ne_of_lt (Heap.lt_size q)
    refine ⟨.ref s.heap.objs.size, upd H s.heap.objs.size (.tup [.int i, x]), ?_, rfl, ⟨s.heap.objs.size, x, rfl, hT, rfl, fun xs' h => by rw [I.tuple_inj h hx]; exact ex⟩, ?_, fun b hb => ?_⟩
    · show Inv X pins σ (upd H s.heap.objs.size (.tup [.int i, x])) { s with heap := h'', toks := tk + 1 }
      refine Inv.turnedS (s := s) (h' := h'') (t' := tk + 1) (ch := [e, it]) I (fun b hb => hf b hb) (fun b o hc q => ?_) (fun b o q => by rw [upd_ne (ne_of_none q hT)]; exact q) (fun b hb n => by rw [upd_ne (Nat.ne_of_lt hb)]; exact n) fun b o n q => ?_
      · simp at hc
        exact b2.extBut b o hc.1 (a5 b o hc.1 hc.2 q)
      · by_cases eb : b = s.heap.objs.size
        · subst eb
          rw [upd_same] at q
          cases q
          refine ⟨by show 2 ≤ sizeLine; decide, [.int i tk, v], .cons ⟨_, rfl⟩ (.cons ru1 .nil), _, b2.extBut _ _ ?_ a3, rfl, _, rfl⟩
          exact fun z => low e _ he z.symm
        · rw [upd_ne eb, n] at q
          cases q
    · refine ⟨⟨_, b1⟩, itAt a2 fun o q => b2.extBut _ o hne.symm q⟩
    · have n := (hf b hb).1
      have : b ≠ s.heap.objs.size := by
        simp at hb
        obtain ⟨_, q1, _⟩ := id h1
        rcases hb with rfl | rfl
        · exact low _ _ he
        · exact low _ _ q1
      rw [upd_ne this]
      exact n
  done := by
    intro X hP hw hK hc i pins s σ H E I hf st hg
    subst hP hw hK
    obtain ⟨xs, hx, hl⟩ := hg
    obtain ⟨⟨old, he⟩, h1⟩ := st
    obtain ⟨its1, rv1, p1, z1⟩ := I.tuple hx
    have e1 := rv1.length
    have isT : s.heap.IsTuple l its1.toArray := let ⟨o, a, b, n, c⟩ := p1; ⟨o, a, b, n, c⟩
    have nl : l ≠ it := tupNe isT h1
    refine enum_endT (I.ok.hd hc) he h1 isT (by simp; omega) fun h' k => ⟨rfl, ?_⟩
    obtain ⟨f0, f1, f2, f3, f4, f5⟩ := hf it (by simp)
    exact I.turned (t' := s.toks) (fun b o hb q => k b o hb q) f0 f1 f3 f4 f5
  self := fun _ _ _ _ _ st h => wpAny_pyIter_enum st.1.choose_spec h
section
variable {X : Cx}
def iEnumT (K : PySem.W.Frag) (ta : TA) : TI := fun σ H R => ta σ H fun vs H1 => ∃ l, vs = [.ref l] ∧ (∃ xs, SqT K H1 l xs) ∧ R (IteT K l) H1
theorem pi_enumT {elts : List Expr} {kt : Nat} {tp : Pos} {a : Expr} {ta : TA} {p pos : Pos} (hg : Gl X "enumerate") (hm : X.mg "enumerate" = none) (ha : PA X [a] ta) (hs : starEach [a] X.env = [(false, eval a X.env)] := by rfl) :
    PI X (.Tuple elts kt tp) (.Call (.Name "enumerate" p) [a] [] pos) (iEnumT X.K ta) := by
  intro pins s σ H R I h
  refine Call_ (ld_blt I hg hm boot_enum (PyProof.Rows.callWith_type1 (thn (ha pos pins s σ H _ I h) fun us s1 ⟨vs, H1, I1, r1, q1⟩ => ?_) hs rfl))
  obtain ⟨l, e, ⟨xs, hx⟩, q⟩ := q1
  subst e
  cases r1 with
  | cons r rr =>
    cases rr
    cases r
    obtain ⟨its1, rv1, p1, z1⟩ := I1.tuple hx
    have isT : s1.heap.IsTuple l its1.toArray := let ⟨o, a, b, n, c⟩ := p1; ⟨o, a, b, n, c⟩
    refine PySem.enum_of_tuple isT ?_
    have sz : (s1.heap.push (PySem.tupIt l)).objs.size = s1.heap.objs.size + 1 := Heap.size_push ..
    have a1 : IsEnum ((s1.heap.push (PySem.tupIt l)).push (PySem.enumOver s1.heap.objs.size)) (s1.heap.objs.size + 1) s1.heap.objs.size 0 .none := sz ▸ Heap.get?_push_size (s1.heap.push (PySem.tupIt l)) rfl
    have a2 : ((s1.heap.push (PySem.tupIt l)).push (PySem.enumOver s1.heap.objs.size)).IsTupleIter s1.heap.objs.size l 0 := ⟨_, Heap.get?_push_of_some _ (Heap.get?_push_size _ rfl), rfl, rfl⟩
    have a4 : ∀ b o, s1.heap.get? b = some o → ((s1.heap.push (PySem.tupIt l)).push (PySem.enumOver s1.heap.objs.size)).get? b = some o := fun b o x => Heap.get?_push_of_some _ (Heap.get?_push_of_some _ x)
    refine wpAny_pyIter_enum a1 ?_
    refine ⟨_, [s1.heap.objs.size + 1, s1.heap.objs.size], _, _, H1, rfl, I1.kept (t' := s1.toks) a4, turn_enumT (Nat.ne_of_gt (Nat.lt_succ_self _)), ⟨⟨_, a1⟩, a2⟩, fun b hb => ?_, q⟩
    have hb' : s1.heap.objs.size ≤ b := by
      simp only [List.mem_cons, List.not_mem_nil, or_false] at hb
      rcases hb with e | e <;> rw [e]
      · exact Nat.le_add_right _ _
      · exact Nat.le_refl _
    exact I1.fpOk hb' (I1.hok.fresh hb')
end
theorem for_enumT {K : PySem.W.Frag} {l : Addr} {xs : List V} {g : TG} {tb : TS} {D : Ends} {σ : St} {H : Hp} (Pv : Nat → St → Hp → Prop) (h0 : Pv 0 σ H) (hl : ∀ i σ H, i ≤ xs.length → Pv i σ H → SqT K H l xs)
    (hs : ∀ i x σ H T, xs[i]? = some x → H T = none → Pv i σ H → g (.ref T) σ (upd H T (.tup [.int i, x])) fun σ2 H2 => tb { D with nx := Pv (i + 1), ct := Pv (i + 1), bk := D.nx } σ2 H2) (hd : ∀ σ H, Pv xs.length σ H → D.nx σ H) :
    ∃ W : Nat → Nat → St → Hp → Prop, (∃ m, W 0 m σ H) ∧ ∀ i m σ H, W i m σ H →
      ((IteT K l).stop i H ∧ D.nx σ H) ∨ ((IteT K l).go i H ∧ ∃ N : St → Hp → Prop, (∀ σ' H', N σ' H' → ∃ m', m' < m ∧ W (i + 1) m' σ' H') ∧ ∀ x H', (IteT K l).yld i H x H' → g x σ H' fun σ2 H2 => tb { D with nx := N, ct := N, bk := D.nx } σ2 H2) := by
  refine ⟨fun i m σ H => m = xs.length - i ∧ i ≤ xs.length ∧ Pv i σ H, ⟨xs.length, by simp, Nat.zero_le _, h0⟩, ?_⟩
  rintro i m σ H ⟨rfl, hi, p⟩
  have q := hl i σ H hi p
  by_cases hlt : i < xs.length
  · refine .inr ⟨⟨xs, xs[i], q, by simp [hlt]⟩, Pv (i + 1), fun σ' H' p' => ⟨xs.length - (i + 1), by omega, rfl, hlt, p'⟩, fun v H' y => ?_⟩
    obtain ⟨T, x, e1, hT, e2, hy⟩ := y
    subst e1 e2
    exact hs i x σ H T (hy xs q) hT p
  · have e : i = xs.length := by omega
    subst e
    exact .inl ⟨⟨xs, q, Nat.le_refl _⟩, hd σ H p⟩
end L2
namespace L3
open PySem L2
theorem boot_dict' : bootBuiltins "dict" = some (.type "dict") := by decide +kernel
structure Bl3 (mg : Str → Option Value) : Prop where
  dict : mg "dict" = none
  enumerate : mg "enumerate" = none
theorem pget {α β : Type} {R : α → β → Prop} : ∀ {xs : List α} {ys : List β}, Paired R xs ys → ∀ {i : Nat} {x : α}, xs[i]? = some x → ∃ y, ys[i]? = some y ∧ R x y
  | _, _, .cons h t, 0, x, e => by
    simp at e
    exact ⟨_, rfl, e ▸ h⟩
  | _, _, .cons h t, i + 1, x, e => by
    obtain ⟨y, a, b⟩ := pget t (i := i) (x := x) (by simpa using e)
    exact ⟨y, by simpa using a, b⟩
def spNwf : Sp := fun vs H Q _ => ∃ d tf us ks fs, vs = [.ref d, .ref tf] ∧ NmI H d ks ∧ H tf = some (.tup us) ∧ Paired (FldV H) us fs ∧ ((ks ++ fs).map (·.1)).Nodup ∧ ks.length + fs.length ≤ 20 ∧ ∀ d' H', Same H H' → H d' = none → NmI H' d' (ks ++ fs) → Q (.ref d') H'
section
variable {P : Program} {w : World} {K : PySem.W.Frag} {mg : Str → Option Value} {base : Heap}
theorem scNwf : FnScope ["names", "fields", "within", "j", "name", "sort"] ["names", "fields"] (defScope sNamesWith) := ⟨rfl, rfl, rfl, by decide +kernel, rfl, by decide +kernel, by decide +kernel⟩
set_option maxHeartbeats 2000000 in
theorem ok_nwf {f : Addr} {fd : FuncData} (F : Fun K "names_with_fields" "names_with_fields" sNamesWith f fd) (B : Bl3 mg) (AN : Fn P w K mg base "add_name" 1 ["names", "name", "sort", "sel"] spAddName) : FnOk P w K mg base CX0 2 f fd ["names", "fields"] spNwf := by
  refine F.ok scNwf (fun vs H Q E h => ?_) (fun cdv A outer s H vs Q E hr h => ?_)
  · obtain ⟨d, tf, us, ks, fs, rfl, _⟩ := h
    rfl
  · obtain ⟨d, tf, us, ks, fs, rfl, ⟨kvs, hd, hp⟩, ht, hf, hnd, h20, q⟩ := h
    refine ⟨_, pss_cons (ps_set (i := 2) scNwf.nd rfl (Or.inl rfl) (pe_callTy call_dictK (by rfl) B.dict boot_dict' (pa_cons (pv 0) pa_nil)))
      (pss_cons (ps_for PassesOwn.never rfl (pi_enumT rfl B.enumerate (pa_cons (pv 1) pa_nil)) (pg_tup rfl (pgs_cons (pg_name (i := 3) scNwf.nd rfl (Or.inl rfl)) (pgs_cons (pg_tup rfl (pgs_cons (pg_name (i := 4) scNwf.nd rfl (Or.inl rfl)) (pgs_cons (pg_name (i := 5) scNwf.nd rfl (Or.inl rfl)) pgs_nil))) pgs_nil)))
        (pss_one (ps_expr (pe_fn AN hr rfl (pa_cons (pv 2) (pa_cons (pv 4) (pa_cons (pv 5) (pa_cons (pe_tup (pa_cons pe_str (pa_cons (pv 3) pa_nil))) pa_nil))))))))
      (pss_one (ps_ret (pv 2)))), ?_⟩
    refine ⟨_, rfl, d, kvs, rfl, hd, fun d' nd' => ?_⟩
    have s1 := same_new (o := .dK kvs) nd'
    have e1 : (upd H d' (.dK kvs)) d' = some (.dK kvs) := upd_same
    generalize upd H d' (.dK kvs) = H1 at *
    refine ⟨_, rfl, tf, rfl, ⟨_, SqT.of (s1 _ _ ht)⟩, ?_⟩
    have lf := hf.length
    refine for_enumT (K := K) (l := tf) (xs := us) (fun i σ H' => ∃ v3 v4 v5 : Option V, σ = [some (.ref d), some (.ref tf), some (.ref d'), v3, v4, v5] ∧ Same H H' ∧ NmI H' d' (ks ++ fs.take i)) ⟨_, _, _, rfl, s1, kvs, e1, by simpa using pmap (fun _ _ h => h.kt (kt_same s1)) hp⟩ (fun i σ H' _ ⟨_, _, _, _, s', _⟩ => SqT.of (s' _ _ ht)) ?_ ?_
    · rintro i x σ H2 T1 hx nT ⟨v3, v4, v5, rfl, s2, n2⟩
      obtain ⟨y, hy, pf, rfl, hpf⟩ := pget hf hx
      have hlt : i < fs.length := (List.getElem?_eq_some_iff.mp hy).1
      have s3 := same_new (o := .tup [.int (i : Int), .ref pf]) nT
      have s23 := s2.trans s3
      refine ⟨T1, _, rfl, SqT.of upd_same, rfl, _, _, rfl, _, _, rfl, ⟨pf, _, rfl, SqT.of (s23 _ _ hpf), rfl, _, _, rfl, _, _, rfl, rfl, rfl, ?_⟩⟩
      refine ⟨_, rfl, _, rfl, _, rfl, _, rfl, (by show 2 ≤ sizeLine; decide), fun t nt => ?_⟩
      have s4 := same_new (o := .tup [.str "by", .int (i : Int)]) nt
      have s24 := s23.trans s4
      have n4 : NmI (upd (upd H2 T1 (.tup [.int (i : Int), .ref pf])) t (.tup [.str "by", .int (i : Int)])) d' (ks ++ fs.take i) := let ⟨kv2, a, b⟩ := n2; ⟨kv2, (s3.trans s4) _ _ a, pmap (fun _ _ h => h.kt (kt_same (s3.trans s4))) b⟩
      have etk : fs.take (i + 1) = fs.take i ++ [y] := by rw [List.take_succ, hy]; rfl
      refine ⟨d', _, y.1, y.2, .ref t, rfl, n4, ?_, ?_, fun H5 n5 b5 => ⟨_, _, _, rfl, same_but nd' s24 b5, ?_⟩⟩
      · intro hm
        have e5 : ks ++ fs = (ks ++ fs.take i) ++ (y :: fs.drop (i + 1)) := by
          rw [List.append_assoc]
          congr 1
          have := (List.take_append_drop i fs).symm
          rw [List.drop_eq_getElem_cons hlt] at this
          rw [(List.getElem?_eq_some_iff.mp hy).2] at this
          exact this
        rw [e5, List.map_append, List.map_cons] at hnd
        exact (List.nodup_append.mp hnd).2.2 _ hm _ List.mem_cons_self rfl
      · rw [List.length_append, List.length_take]
        omega
      · rw [etk, ← List.append_assoc]
        exact n5
    · rintro σ H2 ⟨v3, v4, v5, rfl, s2, n2⟩
      rw [lf, List.take_length] at n2
      exact ⟨_, rfl, q d' H2 s2 nd' n2⟩
end
end L3
namespace L3
open PySem L2
def tkK (zs : List Str) : List (Key × V) := zs.map fun z => (Sum.inr z, .bl true)
theorem tk_no : ∀ {zs : List Str} {z : Str}, z ∉ zs → valV (tkK zs) (Sum.inr z) = none
  | [], _, _ => valV_nil
  | x :: zs, z, h => by
    unfold tkK
    rw [List.map_cons, valV_neg]
    · exact tk_no (fun m => h (List.mem_cons_of_mem _ m))
    · intro e
      exact h (by rw [← Sum.inr.inj e]; exact List.mem_cons_self)
def spKN : Sp := fun vs H Q _ => ∃ d tk us ks kds, vs = [.ref d, .ref tk] ∧ NmI H d ks ∧ H tk = some (.tup us) ∧ Paired (KindV H) us kds ∧ (kds.map Kn.name).Nodup ∧ (∀ x ∈ kds, ((ks ++ x.fs).map (·.1)).Nodup ∧ x.fs.length ≤ 3) ∧ ks.length ≤ 10 ∧ kds.length ≤ 8 ∧
  ∀ p us' H', Same H H' → H p = none → H' p = some (.tup us') → Paired (KindV H') us' kds → Q (.ref p) H'
structure NI (H : Hp) (kds : List Kn) (ln lt : Addr) (i : Nat) (H' : Hp) : Prop where
  sm : Same H H'
  n1 : H ln = none
  n2 : H lt = none
  ne : ln ≠ lt
  ls : ∃ us, H' ln = some (.lst us) ∧ us.length = i ∧ Paired (KindV H') us (kds.take i)
  tk : H' lt = some (.dK (tkK ((kds.take i).map Kn.name)))
section
variable {P : Program} {w : World} {K : PySem.W.Frag} {mg : Str → Option Value} {base : Heap}
theorem scKN : FnScope ["names", "kinds", "named", "taken", "name", "fields", "body", "deed"] ["names", "kinds"] (defScope sKindsNamed) := ⟨rfl, rfl, rfl, by decide +kernel, rfl, by decide +kernel, by decide +kernel⟩
set_option maxHeartbeats 4000000 in
theorem ok_kn {f : Addr} {fd : FuncData} (F : Fun K "kinds_named" "kinds_named" sKindsNamed f fd) (B : Bl mg) (NW : Fn P w K mg base "names_with_fields" 2 ["names", "fields"] spNwf) (DO : Fn P w K mg base "deed_of" 2 ["names", "body"] spDeedOf) : FnOk P w K mg base CX0 3 f fd ["names", "kinds"] spKN := by
  refine F.ok scKN (fun vs H Q E h => ?_) (fun cdv A outer s H vs Q E hr h => ?_)
  · obtain ⟨d, tk, us, ks, kds, rfl, _⟩ := h
    rfl
  · obtain ⟨d, tk, us, ks, kds, rfl, hN, ht, hk, hnd, hfs, h10, h8, q⟩ := h
    have hu := hu_of hr
    have sz : (1000 : Nat) ≤ sizeLine := by decide
    refine ⟨_, pss_cons (ps_set (i := 2) scKN.nd rfl (Or.inl rfl) (pe_lst pa_nil))
      (pss_cons (ps_set (i := 3) scKN.nd rfl (Or.inl rfl) pe_dnewK)
      (pss_cons (ps_for PassesOwn.never rfl (pi_tup (pv 1)) (pg_tup rfl (pgs_cons (pg_name (i := 4) scKN.nd rfl (Or.inl rfl)) (pgs_cons (pg_name (i := 5) scKN.nd rfl (Or.inl rfl)) (pgs_cons (pg_name (i := 6) scKN.nd rfl (Or.inl rfl)) pgs_nil))))
        (pss_cons (ps_if (pt_cmp (pc_din hu (pv 4) (pv 3))) (pss_one ps_never) pss_nil)
        (pss_cons (ps_dput hu (pv 3) (pv 4) pe_bl rfl)
        (pss_cons (ps_set (i := 7) scKN.nd rfl (Or.inl rfl) (pe_fn DO hr rfl (pa_cons (pe_fn NW hr rfl (pa_cons (pv 0) (pa_cons (pv 5) pa_nil))) (pa_cons (pv 6) pa_nil))))
        (pss_one (ps_expr (pe_bm PySem.F.plainAttrs_list PySem.F.slot_list_append PySem.F.type_list_append mt_append (pv 2) (pa_cons (pe_tup (pa_cons (pv 4) (pa_cons (pv 5) (pa_cons (pv 7) pa_nil)))) pa_nil))))))))
      (pss_one (ps_ret (pe_callTy call_tuple_of (by rfl) B.tuple boot_tuple' (pa_cons (pv 2) pa_nil)))))), ?_⟩
    have lk := hk.length
    refine ⟨(by show 0 ≤ sizeLine; decide), fun ln n1 => ?_⟩
    have s1 := same_new (o := .lst []) n1
    have e1 : (upd H ln (.lst [])) ln = some (.lst []) := upd_same
    generalize upd H ln (.lst ([] : List V)) = H1 at *
    refine fun lt n2 => ?_
    have s2 := same_new (o := .dK []) n2
    have e2 : (upd H1 lt (.dK [])) lt = some (.dK []) := upd_same
    have I0 : NI H kds ln lt 0 (upd H1 lt (.dK [])) := ⟨s1.trans s2, n1, s1.free n2, ne_of_none e1 n2, ⟨[], s2 _ _ e1, rfl, .nil⟩, e2⟩
    generalize upd H1 lt (.dK ([] : List (Key × V))) = H2 at *
    refine ⟨_, rfl, tk, rfl, ⟨_, SqT.of (I0.sm _ _ ht)⟩, ?_⟩
    refine for_tup (K := K) (a := tk) (xs := us) (fun i σ H' => ∃ v4 v5 v6 v7 : Option V, σ = [some (.ref d), some (.ref tk), some (.ref ln), some (.ref lt), v4, v5, v6, v7] ∧ NI H kds ln lt i H') ⟨_, _, _, _, rfl, I0⟩ (fun i σ H' _ ⟨_, _, _, _, _, I⟩ => SqT.of (I.sm _ _ ht)) ?_ ?_
    · rintro i x σ H3 hx ⟨v4, v5, v6, v7, rfl, I⟩
      obtain ⟨y, hy, hK⟩ := pget hk hx
      have hlt : i < kds.length := (List.getElem?_eq_some_iff.mp hy).1
      have hyi : kds[i] = y := (List.getElem?_eq_some_iff.mp hy).2
      obtain ⟨p, tf, b, fu, rfl, hp, htf, hfu, hb⟩ := hK
      have etk : kds.take (i + 1) = kds.take i ++ [y] := by rw [List.take_succ, hy]; rfl
      have hym : y ∈ kds := hyi ▸ List.getElem_mem hlt
      have hno : y.name ∉ (kds.take i).map Kn.name := by
        intro hm
        have e5 : kds = kds.take i ++ (y :: kds.drop (i + 1)) := by
          have := (List.take_append_drop i kds).symm
          rw [List.drop_eq_getElem_cons hlt, hyi] at this
          exact this
        rw [e5, List.map_append, List.map_cons] at hnd
        exact (List.nodup_append.mp hnd).2.2 _ hm _ List.mem_cons_self rfl
      have hval := tk_no hno
      have g : DGet H3 lt (.str y.name) none := by
        have := DGet.k (k := Sum.inr y.name) I.tk
        rw [hval] at this
        exact this
      refine ⟨p, _, rfl, SqT.of (I.sm _ _ hp), rfl, _, _, rfl, _, _, rfl, _, _, rfl, rfl, ?_⟩
      refine ⟨_, rfl, _, rfl, lt, _, rfl, g, _, rfl, iteF ?_⟩
      have ltk : (tkK ((kds.take i).map Kn.name)).length ≤ 8 := by
        unfold tkK
        rw [List.length_map, List.length_map, List.length_take]
        omega
      refine ⟨_, rfl, _, rfl, lt, _, rfl, DPut.k (k := Sum.inr y.name) I.tk (by omega), ?_⟩
      rw [putK_new _ hval]
      have et : tkK ((kds.take i).map Kn.name) ++ [(Sum.inr y.name, V.bl true)] = tkK ((kds.take (i + 1)).map Kn.name) := by
        unfold tkK
        rw [etk, List.map_append, List.map_append]
        rfl
      rw [et]
      obtain ⟨us3, e3, l3, p3⟩ := I.ls
      have k4 : TupK H3 (upd H3 lt (.dK (tkK ((kds.take (i + 1)).map Kn.name)))) := kt_dk I.tk
      have s4 : Same H (upd H3 lt (.dK (tkK ((kds.take (i + 1)).map Kn.name)))) := same_mut I.n2 I.sm
      have e4 : (upd H3 lt (.dK (tkK ((kds.take (i + 1)).map Kn.name)))) ln = some (.lst us3) := by rw [upd_ne I.ne]; exact e3
      have t4 : (upd H3 lt (.dK (tkK ((kds.take (i + 1)).map Kn.name)))) lt = some (.dK (tkK ((kds.take (i + 1)).map Kn.name))) := upd_same
      have p4 := pmap (fun _ _ h => KindV.kt k4 h) p3
      generalize upd H3 lt (.dK (tkK ((kds.take (i + 1)).map Kn.name))) = H4 at *
      have hN4 : NmI H4 d ks := let ⟨kv2, a, b2⟩ := hN; ⟨kv2, s4 _ _ a, pmap (fun _ _ h => h.kt (kt_same s4)) b2⟩
      refine ⟨_, rfl, _, rfl, d, tf, fu, ks, y.fs, rfl, hN4, s4 _ _ htf, pmap (fun _ _ h => h.kt (kt_same s4)) hfu, (hfs y hym).1, by have := (hfs y hym).2; omega, fun d' H5 s5 nd' nm' => ?_⟩
      have s45 := s4.trans s5
      refine ⟨_, rfl, .ref d', b, rfl, hb.kt (kt_same s45), fun b' H6 s6 hb' => ?_⟩
      have s46 := s5.trans s6
      have s06 := s4.trans s46
      refine ⟨_, rfl, .inl ⟨rfl, _, SqL.of (s46 _ _ e4)⟩, _, rfl, _, rfl, _, rfl, (by show 3 ≤ sizeLine; decide), fun pt npt => ?_⟩
      have s7 := same_new (o := .tup [.str y.name, .ref tf, b']) npt
      have e7 := s7 _ _ (s46 _ _ e4)
      have ept : (upd H6 pt (.tup [.str y.name, .ref tf, b'])) pt = some (.tup [.str y.name, .ref tf, b']) := upd_same
      have s07 := s06.trans s7
      generalize upd H6 pt (.tup [V.str y.name, .ref tf, b']) = H7 at *
      refine ⟨ln, _, _, rfl, rfl, e7, by rw [l3]; omega, ?_⟩
      have k8 := kt_ls (ys := us3 ++ [V.ref pt]) e7
      have k47 : TupK H4 H7 := kt_same (s46.trans s7)
      refine ⟨_, _, _, _, rfl, same_mut I.n1 s07, I.n1, I.n2, I.ne, ⟨us3 ++ [.ref pt], upd_same, by simp [l3], ?_⟩, ?_⟩
      · rw [etk]
        refine psnoc ⟨pt, tf, b', fu, rfl, k8 _ _ ept, k8 _ _ (s07 _ _ htf), pmap (fun _ _ h => (h.kt (kt_same s07)).kt k8) hfu, (hb'.kt (kt_same s7)).kt k8⟩ (pmap (fun _ _ h => (KindV.kt k47 h).kt k8) p4)
      · rw [upd_ne I.ne.symm]
        exact s7 _ _ (s46 _ _ t4)
    · rintro σ H3 ⟨v4, v5, v6, v7, rfl, I⟩
      obtain ⟨us3, e3, l3, p3⟩ := I.ls
      rw [lk, List.take_length] at p3
      refine ⟨_, rfl, ln, us3, rfl, .inl ⟨SqL.of e3, fun p np => ?_⟩⟩
      have s4 := same_new (o := .tup us3) np
      exact q p us3 _ (I.sm.trans s4) (I.sm.free np) upd_same (pmap (fun _ _ h => KindV.kt (kt_same s4) h) p3)
end
end L3
namespace L3
open PySem L2
theorem pg_tupK {X : Cx} {K : PySem.W.Frag} {es : List Expr} {k : Nat} {pos : Pos} {t : TGs} {n : Nat} (h : X.K = K) (hc : X.calm = true) (hg : PGs X es t) (hn : (assignEach es X.env).length = n := by rfl) (hst : (assignEach es X.env).findIdx? (·.1) = none := by rfl) : PG X (.Tuple es k pos) (gTup K n t) := by
  subst h
  exact pg_tup hc hg hn hst
def tabF (vw vc vd vp vm vg : V) (pn pk : Addr) : List (Str × V) := [("width", vw), ("cells", vc), ("depth", vd), ("places", vp), ("marks", vm), ("gate", vg), ("kinds", .ref pn), ("kinds_known", .ref pk)]
def tabN : List Str := ["width", "cells", "depth", "places", "marks", "gate", "kinds", "kinds_known"]
structure Tc (K : PySem.W.Frag) (C : Addr) : Prop where
  cl : Cls K C
  na : ∀ f ∈ tabN, NoAttr K C f
abbrev sTInit : Stmt := inClass (top 73) 0
def spTInit (C : Addr) : Sp := fun vs H Q _ => ∃ x dx vw vc vd vp vm vg pk us kds, vs = [.ref x, vw, vc, vd, vp, vm, vg, .ref pk] ∧ H x = some (.ins C dx []) ∧ H pk = some (.tup us) ∧ Paired (KindV H) us kds ∧ kds.length ≤ 8 ∧
  ∀ pn H', H' x = some (.ins C dx (tabF vw vc vd vp vm vg pn pk)) → H pn = none → H' pn = some (.tup (strsV (kds.map Kn.name))) → ButO x H H' → Q .non H'
section
variable {P : Program} {w : World} {K : PySem.W.Frag} {mg : Str → Option Value} {base : Heap} {C : Addr}
theorem scTInit : FnScope ["self", "width", "cells", "depth", "places", "marks", "gate", "kinds_known"] ["self", "width", "cells", "depth", "places", "marks", "gate", "kinds_known"] (defScope sTInit) := ⟨rfl, rfl, rfl, by decide +kernel, rfl, by decide +kernel, by decide +kernel⟩
theorem ndT3 : (["name", "fields", "deed"] : List Str).Nodup := by decide +kernel
set_option maxHeartbeats 4000000 in
theorem ok_tInit {f : Addr} {fd : FuncData} (F : Fun K "__init__" "Table.__init__" sTInit f fd) (T : Tc K C) (B : Bl mg) : FnOk P w K mg base CX0 1 f fd ["self", "width", "cells", "depth", "places", "marks", "gate", "kinds_known"] (spTInit C) := by
  refine F.ok scTInit (fun vs H Q E h => ?_) (fun cdv A outer s H vs Q E hr h => ?_)
  · obtain ⟨x, dx, vw, vc, vd, vp, vm, vg, pk, us, kds, rfl, _⟩ := h
    rfl
  · obtain ⟨x, dx, vw, vc, vd, vp, vm, vg, pk, us, kds, rfl, hx, hk, hp, h8, q⟩ := h
    have sz : (1000 : Nat) ≤ sizeLine := by decide
    refine ⟨_, (pss_cons (ps_fld (pv 0) (pv 1) rfl)
      (pss_cons (ps_fld (pv 0) (pv 2) rfl)
      (pss_cons (ps_fld (pv 0) (pv 3) rfl)
      (pss_cons (ps_fld (pv 0) (pv 4) rfl)
      (pss_cons (ps_fld (pv 0) (pv 5) rfl)
      (pss_cons (ps_fld (pv 0) (pv 6) rfl)
      (pss_cons (ps_fld (pv 0) (pe_callTy call_tuple_of (by rfl) B.tuple boot_tuple' (pa_cons (pe_lc (N' := ["name", "fields", "deed"]) (ix := [none, none, none]) (sc0 := defScope sTInit) (N := ["self", "width", "cells", "depth", "places", "marks", "gate", "kinds_known"]) rfl (by decide +kernel) (pi_tup (pv 7)) (fun C' cl s H fp => pg_tupK (K := K) (n := 3) rfl rfl (pgs_cons (pg_name (i := 0) ndT3 rfl (Or.inl rfl) (.inr rfl)) (pgs_cons (pg_name (i := 1) ndT3 rfl (Or.inl rfl) (.inr rfl)) (pgs_cons (pg_name (i := 2) ndT3 rfl (Or.inl rfl) (.inr rfl)) pgs_nil)))) (fun _ _ _ _ _ => pf_nil) (fun C' cl s H fp => pv 0)) pa_nil)) rfl)
      (pss_one (ps_fld (pv 0) (pv 7) rfl))))))))), ?_⟩
    have b0 : ButO x H H := ButO.refl _ _
    refine ⟨_, rfl, _, rfl, x, C, dx, _, rfl, hx, T.cl, T.na "width" (by decide +kernel), (by show 0 < 1000; decide), ?_⟩
    have e1 : (upd H x (.ins C dx (putF "width" vw []))) x = some (.ins C dx (putF "width" vw [])) := upd_same
    have b1 : ButO x H (upd H x (.ins C dx (putF "width" vw []))) := fun b o e nb => by rw [upd_ne nb]; exact b0 _ _ e nb
    generalize upd H x (.ins C dx (putF "width" vw [])) = H1 at *
    refine ⟨_, rfl, _, rfl, x, C, dx, _, rfl, e1, T.cl, T.na "cells" (by decide +kernel), (by show 1 < 1000; decide), ?_⟩
    have e2 : (upd H1 x (.ins C dx (putF "cells" vc (putF "width" vw [])))) x = some (.ins C dx (putF "cells" vc (putF "width" vw []))) := upd_same
    have b2 : ButO x H (upd H1 x (.ins C dx (putF "cells" vc (putF "width" vw [])))) := fun b o e nb => by rw [upd_ne nb]; exact b1 _ _ e nb
    generalize upd H1 x (.ins C dx (putF "cells" vc (putF "width" vw []))) = H2 at *
    refine ⟨_, rfl, _, rfl, x, C, dx, _, rfl, e2, T.cl, T.na "depth" (by decide +kernel), (by show 2 < 1000; decide), ?_⟩
    have e3 : (upd H2 x (.ins C dx (putF "depth" vd (putF "cells" vc (putF "width" vw []))))) x = some (.ins C dx (putF "depth" vd (putF "cells" vc (putF "width" vw [])))) := upd_same
    have b3 : ButO x H (upd H2 x (.ins C dx (putF "depth" vd (putF "cells" vc (putF "width" vw []))))) := fun b o e nb => by rw [upd_ne nb]; exact b2 _ _ e nb
    generalize upd H2 x (.ins C dx (putF "depth" vd (putF "cells" vc (putF "width" vw [])))) = H3 at *
    refine ⟨_, rfl, _, rfl, x, C, dx, _, rfl, e3, T.cl, T.na "places" (by decide +kernel), (by show 3 < 1000; decide), ?_⟩
    have e4 : (upd H3 x (.ins C dx (putF "places" vp (putF "depth" vd (putF "cells" vc (putF "width" vw [])))))) x = some (.ins C dx (putF "places" vp (putF "depth" vd (putF "cells" vc (putF "width" vw []))))) := upd_same
    have b4 : ButO x H (upd H3 x (.ins C dx (putF "places" vp (putF "depth" vd (putF "cells" vc (putF "width" vw [])))))) := fun b o e nb => by rw [upd_ne nb]; exact b3 _ _ e nb
    generalize upd H3 x (.ins C dx (putF "places" vp (putF "depth" vd (putF "cells" vc (putF "width" vw []))))) = H4 at *
    refine ⟨_, rfl, _, rfl, x, C, dx, _, rfl, e4, T.cl, T.na "marks" (by decide +kernel), (by show 4 < 1000; decide), ?_⟩
    have e5 : (upd H4 x (.ins C dx (putF "marks" vm (putF "places" vp (putF "depth" vd (putF "cells" vc (putF "width" vw []))))))) x = some (.ins C dx (putF "marks" vm (putF "places" vp (putF "depth" vd (putF "cells" vc (putF "width" vw [])))))) := upd_same
    have b5 : ButO x H (upd H4 x (.ins C dx (putF "marks" vm (putF "places" vp (putF "depth" vd (putF "cells" vc (putF "width" vw []))))))) := fun b o e nb => by rw [upd_ne nb]; exact b4 _ _ e nb
    generalize upd H4 x (.ins C dx (putF "marks" vm (putF "places" vp (putF "depth" vd (putF "cells" vc (putF "width" vw [])))))) = H5 at *
    refine ⟨_, rfl, _, rfl, x, C, dx, _, rfl, e5, T.cl, T.na "gate" (by decide +kernel), (by show 5 < 1000; decide), ?_⟩
    have e6 : (upd H5 x (.ins C dx (putF "gate" vg (putF "marks" vm (putF "places" vp (putF "depth" vd (putF "cells" vc (putF "width" vw [])))))))) x = some (.ins C dx (putF "gate" vg (putF "marks" vm (putF "places" vp (putF "depth" vd (putF "cells" vc (putF "width" vw []))))))) := upd_same
    have b6 : ButO x H (upd H5 x (.ins C dx (putF "gate" vg (putF "marks" vm (putF "places" vp (putF "depth" vd (putF "cells" vc (putF "width" vw [])))))))) := fun b o e nb => by rw [upd_ne nb]; exact b5 _ _ e nb
    generalize upd H5 x (.ins C dx (putF "gate" vg (putF "marks" vm (putF "places" vp (putF "depth" vd (putF "cells" vc (putF "width" vw []))))))) = H6 at *
    have pkx : pk ≠ x := by
      rintro rfl
      rw [hk] at hx
      cases hx
    have hk6 := b6 _ _ hk pkx
    have k6 : TupK H H6 := b6.kt hx
    have hp6 := pmap (fun _ _ h => KindV.kt k6 h) hp
    have lk := hp.length
    refine ⟨_, rfl, pk, rfl, ⟨_, SqT.of hk6⟩, ?_⟩
    refine lc_tup (K := K) (a := pk) (xs := us) (fun i ys H' => H' = H6 ∧ ys = strsV ((kds.take i).map Kn.name)) ⟨rfl, rfl⟩ (fun i ys H' hi ⟨a1, a2⟩ => by
        subst a1 a2
        refine ⟨SqT.of hk6, ?_⟩
        unfold strsV
        rw [List.length_map, List.length_map, List.length_take]
        omega) ?_ ?_
    · rintro i z ys H' hz ⟨rfl, rfl⟩
      obtain ⟨y, hy, p, tf, bb, fu, rfl, hpp, _⟩ := pget hp6 hz
      have hlt : i < us.length := (List.getElem?_eq_some_iff.mp hz).1
      refine ⟨p, _, rfl, SqT.of hpp, rfl, _, _, rfl, _, _, rfl, _, _, rfl, rfl, trivial, tAny_T ?_⟩
      refine ⟨_, rfl, Nx.mk hlt ⟨rfl, ?_⟩⟩
      rw [List.take_succ, hy]
      unfold strsV
      simp
    · rintro ys H' ⟨rfl, rfl⟩ D hD
      rw [lk, List.take_length]
      have s7 := same_new (o := .lst (strsV (kds.map Kn.name))) hD
      have e7 : (upd H' D (.lst (strsV (kds.map Kn.name)))) D = some (.lst (strsV (kds.map Kn.name))) := upd_same
      have x7 := s7 _ _ e6
      generalize upd H' D (.lst (strsV (kds.map Kn.name))) = H7 at *
      refine ⟨D, _, rfl, .inl ⟨SqL.of e7, fun pn npn => ?_⟩⟩
      have s8 := same_new (o := .tup (strsV (kds.map Kn.name))) npn
      have e8 : (upd H7 pn (.tup (strsV (kds.map Kn.name)))) pn = some (.tup (strsV (kds.map Kn.name))) := upd_same
      have x8 := s8 _ _ x7
      have b8 := (b6.same s7).same s8
      have nH : H pn = none := free_of (b6.same s7) x7 npn
      generalize upd H7 pn (.tup (strsV (kds.map Kn.name))) = H8 at *
      have pnx : pn ≠ x := by
        rintro rfl
        rw [nH] at hx
        cases hx
      refine ⟨_, rfl, x, C, dx, _, rfl, x8, T.cl, T.na "kinds" (by decide +kernel), (by show 6 < 1000; decide), ?_⟩
      refine ⟨_, rfl, _, rfl, x, C, dx, _, rfl, upd_same, T.cl, T.na "kinds_known" (by decide +kernel), (by show 7 < 1000; decide), ?_⟩
      refine q pn _ ?_ nH ?_ ?_
      · rw [upd_same]
        rfl
      · rw [upd_ne pnx, upd_ne pnx]
        exact e8
      · intro b o e nb
        rw [upd_ne nb, upd_ne nb]
        exact b8 _ _ e nb
end
end L3
namespace L3
open PySem L2
def nmsD (D : Fm) : List (Str × Str) := D.places.map (fun z => (z, ("place" : Str))) ++ D.marks.map (fun z => (z, ("mark" : Str)))
def gateV (D : Fm) : V := match D.gates with
  | [] => .non
  | z :: _ => .str z
structure FmOk (D : Fm) : Prop where
  nd : ((nmsD D).map (·.1)).Nodup
  gt : ∀ z ∈ D.gates, z ∈ D.marks
  g1 : D.gates.length ≤ 1
  kn : (D.kinds.map Kn.name).Nodup
  kf : ∀ x ∈ D.kinds, ((nmsD D ++ x.fs).map (·.1)).Nodup ∧ x.fs.length ≤ 3
  p4 : D.places.length ≤ 4
  m3 : D.marks.length ≤ 3
  k8 : D.kinds.length ≤ 8
def TabV (C : Addr) (H : Hp) (v : V) (D : Fm) : Prop := ∃ a dx pp pm pn pk us, v = .ref a ∧ H a = some (.ins C dx (tabF (.int D.width) (.int D.cells) (.int D.depth) (.ref pp) (.ref pm) (gateV D) pn pk)) ∧ H pp = some (.tup (strsV D.places)) ∧ H pm = some (.tup (strsV D.marks)) ∧ H pn = some (.tup (strsV (D.kinds.map Kn.name))) ∧ H pk = some (.tup us) ∧ Paired (KindV H) us D.kinds
def spTF (C : Addr) : Sp := fun vs H Q _ => ∃ u D, vs = [u] ∧ FormV H u D ∧ FmOk D ∧ ∀ v H', Same H H' → TabV C H' v D → Q v H'
theorem NmI.same {H H' : Hp} {d : Addr} {ks : List (Str × Str)} (h : NmI H d ks) (s : Same H H') : NmI H' d ks := let ⟨kv, a, b⟩ := h; ⟨kv, s _ _ a, pmap (fun _ _ h => h.kt (kt_same s)) b⟩
theorem nd_mid {A B : List (Str × Str)} {x : Str × Str} (h : ((A ++ x :: B).map (·.1)).Nodup) : x.1 ∉ A.map (·.1) := by
  rw [List.map_append, List.map_cons] at h
  intro hm
  exact (List.nodup_append.mp h).2.2 _ hm _ List.mem_cons_self rfl
section
variable {P : Program} {w : World} {K : PySem.W.Frag} {mg : Str → Option Value} {base : Heap} {C fi : Addr}
theorem scTF : FnScope ["form", "width", "cells", "depth", "places", "marks", "gates", "kinds", "names", "i", "name", "gate", "kinds_known"] ["form"] (defScope sTableOfForm) := ⟨rfl, rfl, rfl, by decide +kernel, rfl, by decide +kernel, by decide +kernel⟩
set_option maxHeartbeats 8000000 in
theorem ok_tf {f : Addr} {fd fdi : FuncData} (F : Fun K "table_of_form" "table_of_form" sTableOfForm f fd) (B : Bl mg) (B3 : Bl3 mg) (MK : Mk K C fi) (mgT : mg "Table" = some (.ref C)) (IN : FnOk P w K mg base CX0 1 fi fdi ["self", "width", "cells", "depth", "places", "marks", "gate", "kinds_known"] (spTInit C)) (bI : Binds K fdi ["self", "width", "cells", "depth", "places", "marks", "gate", "kinds_known"] [])
    (AN : Fn P w K mg base "add_name" 1 ["names", "name", "sort", "sel"] spAddName) (NK : Fn P w K mg base "need_known" 1 ["names", "name", "sorts"] (spNeedKnown K)) (KN : Fn P w K mg base "kinds_named" 3 ["names", "kinds"] spKN) : FnOk P w K mg base CX0 4 f fd ["form"] (spTF C) := by
  refine F.ok scTF (fun vs H Q E h => ?_) (fun cdv A outer s H vs Q E hr h => ?_)
  · obtain ⟨u, D, rfl, _⟩ := h
    rfl
  · obtain ⟨u, D, rfl, ⟨p, pp, pm, pg, pk, us, rfl, hp, hpp, hpm, hpg, hpk, hus⟩, hD, q⟩ := h
    have hr1 : Room 1 _ := hr.mono (by decide)
    have hr2 : Room 2 _ := hr.mono (by decide)
    have sz : (1000 : Nat) ≤ sizeLine := by decide
    refine ⟨_, pss_cons (ps_asg (pv 0) (pg_tup rfl (pgs_cons (pg_name (i := 1) scTF.nd rfl (Or.inl rfl)) (pgs_cons (pg_name (i := 2) scTF.nd rfl (Or.inl rfl)) (pgs_cons (pg_name (i := 3) scTF.nd rfl (Or.inl rfl)) (pgs_cons (pg_name (i := 4) scTF.nd rfl (Or.inl rfl)) (pgs_cons (pg_name (i := 5) scTF.nd rfl (Or.inl rfl)) (pgs_cons (pg_name (i := 6) scTF.nd rfl (Or.inl rfl)) (pgs_cons (pg_name (i := 7) scTF.nd rfl (Or.inl rfl)) pgs_nil)))))))))
      (pss_cons (ps_set (i := 8) scTF.nd rfl (Or.inl rfl) pe_dnewK)
      (pss_cut (fun σ H' => ∃ (d : Addr) (v9 v10 v11 v12 : Option V), σ = [some (.ref p), some (.int D.width), some (.int D.cells), some (.int D.depth), some (.ref pp), some (.ref pm), some (.ref pg), some (.ref pk), some (.ref d), v9, v10, v11, v12] ∧ H d = none ∧ Same H H' ∧ NmI H' d (D.places.map (fun z => (z, ("place" : Str))))) (ps_for PassesOwn.never rfl (pi_enumT rfl B3.enumerate (pa_cons (pv 4) pa_nil)) (pg_tup rfl (pgs_cons (pg_name (i := 9) scTF.nd rfl (Or.inl rfl)) (pgs_cons (pg_name (i := 10) scTF.nd rfl (Or.inl rfl)) pgs_nil))) (pss_one (ps_expr (pe_fn AN hr1 rfl (pa_cons (pv 8) (pa_cons (pv 10) (pa_cons pe_str (pa_cons (pe_tup (pa_cons pe_str (pa_cons (pv 9) pa_nil))) pa_nil))))))))
      (pss_cut (fun σ H' => ∃ (d : Addr) (v9 v10 v11 v12 : Option V), σ = [some (.ref p), some (.int D.width), some (.int D.cells), some (.int D.depth), some (.ref pp), some (.ref pm), some (.ref pg), some (.ref pk), some (.ref d), v9, v10, v11, v12] ∧ H d = none ∧ Same H H' ∧ NmI H' d (nmsD D)) (ps_for PassesOwn.never rfl (pi_enumT rfl B3.enumerate (pa_cons (pv 5) pa_nil)) (pg_tup rfl (pgs_cons (pg_name (i := 9) scTF.nd rfl (Or.inl rfl)) (pgs_cons (pg_name (i := 10) scTF.nd rfl (Or.inl rfl)) pgs_nil))) (pss_one (ps_expr (pe_fn AN hr1 rfl (pa_cons (pv 8) (pa_cons (pv 10) (pa_cons pe_str (pa_cons (pe_tup (pa_cons pe_str (pa_cons (pv 9) pa_nil))) pa_nil))))))))
      (pss_cons (ps_set (i := 11) scTF.nd rfl (Or.inl rfl) pe_non)
      (pss_cut (fun σ H' => ∃ (d : Addr) (v9 v10 v11 v12 : Option V), σ = [some (.ref p), some (.int D.width), some (.int D.cells), some (.int D.depth), some (.ref pp), some (.ref pm), some (.ref pg), some (.ref pk), some (.ref d), v9, v10, v11, v12] ∧ v11 = some (gateV D) ∧ H d = none ∧ Same H H' ∧ NmI H' d (nmsD D)) (ps_for PassesOwn.never rfl (pi_tup (pv 6)) (pg_name (i := 10) scTF.nd rfl (Or.inl rfl)) (pss_cons (ps_expr (pe_fn NK hr1 rfl (pa_cons (pv 8) (pa_cons (pv 10) (pa_cons (pe_tup (pa_cons pe_str pa_nil)) pa_nil))))) (pss_one (ps_set (i := 11) scTF.nd rfl (Or.inl rfl) (pv 10)))))
      (pss_cons (ps_set (i := 12) scTF.nd rfl (Or.inl rfl) (pe_fn KN hr rfl (pa_cons (pv 8) (pa_cons (pv 7) pa_nil))))
      (pss_one (ps_ret (pe_make MK IN hr2 rfl mgT bI .nil pass0 (pa_cons (pv 1) (pa_cons (pv 2) (pa_cons (pv 3) (pa_cons (pv 4) (pa_cons (pv 5) (pa_cons (pv 11) (pa_cons (pv 12) pa_nil)))))))))))))))), ?_⟩
    refine ⟨_, rfl, p, _, rfl, SqT.of hp, rfl, _, _, rfl, _, _, rfl, _, _, rfl, _, _, rfl, _, _, rfl, _, _, rfl, _, _, rfl, rfl, ?_⟩
    refine fun d nd => ?_
    have s1 := same_new (o := .dK []) nd
    have I1 : NmI (upd H d (.dK [])) d [] := ⟨[], upd_same, .nil⟩
    generalize upd H d (.dK ([] : List (Key × V))) = H1 at *
    refine ⟨?_, ?_⟩
    · rintro σ H2 ⟨d, v9, v10, v11, v12, rfl, nd, s2, I2⟩
      refine ⟨?_, ?_⟩
      · rintro σ H3 ⟨d, v9, v10, v11, v12, rfl, nd, s3, I3⟩
        refine ⟨?_, ?_⟩
        · rintro σ H4 ⟨d, v9, v10, v11, v12, rfl, rfl, nd, s4, I4⟩
          refine ⟨_, rfl, _, rfl, d, pk, us, nmsD D, D.kinds, rfl, I4, s4 _ _ hpk, pmap (fun _ _ h => KindV.kt (kt_same s4) h) hus, hD.kn, hD.kf, ?_, hD.k8, fun p5 us5 H5 s5 n5 e5 k5 => ?_⟩
          · unfold nmsD
            rw [List.length_append, List.length_map, List.length_map]
            have := hD.p4
            have := hD.m3
            omega
          have s05 := s4.trans s5
          refine ⟨_, rfl, _, rfl, _, rfl, _, rfl, _, rfl, _, rfl, _, rfl, fun x dx nx ndx ne => ?_⟩
          refine ⟨x, dx, _, _, _, _, _, _, p5, us5, D.kinds, rfl, upd_same, (same_mut nx (same_new ndx)) _ _ e5, pmap (fun _ _ h => KindV.kt (kt_same (same_mut nx (same_new ndx))) h) k5, hD.k8, fun pn H7 e7 npn epn b7 => ⟨rfl, ?_⟩⟩
          have s57 : Same H5 H7 := same_but nx (same_mut nx (same_new ndx)) b7
          have s07 := s05.trans s57
          exact q _ _ s07 ⟨x, dx, pp, pm, pn, p5, us5, rfl, e7, s07 _ _ hpp, s07 _ _ hpm, epn, s57 _ _ e5, pmap (fun _ _ h => KindV.kt (kt_same s57) h) k5⟩
        · refine ⟨_, rfl, pg, rfl, ⟨_, SqT.of (s3 _ _ hpg)⟩, ?_⟩
          refine for_tup (K := K) (a := pg) (xs := strsV D.gates) (fun i σ H' => ∃ (v9 v10 v11 v12 : Option V), σ = [some (.ref p), some (.int D.width), some (.int D.cells), some (.int D.depth), some (.ref pp), some (.ref pm), some (.ref pg), some (.ref pk), some (.ref d), v9, v10, v11, v12] ∧ v11 = some (if i = 0 then .non else gateV D) ∧ Same H H' ∧ NmI H' d (nmsD D)) ⟨_, _, _, _, rfl, rfl, s3, I3⟩ (fun i σ H' _ ⟨_, _, _, _, _, _, s', _⟩ => SqT.of (s' _ _ hpg)) ?_ ?_
          · rintro i x σ Ha hx ⟨w9, w10, w11, w12, rfl, rfl, sa, Ia⟩
            have hg1 := hD.g1
            have hgt := hD.gt
            have hlt0 : i < (strsV D.gates).length := (List.getElem?_eq_some_iff.mp hx).1
            unfold strsV at hx hlt0
            rw [List.length_map] at hlt0
            cases hgs : D.gates with
            | nil => rw [hgs] at hlt0; simp at hlt0
            | cons z r =>
              rw [hgs] at hx hlt0 hg1 hgt
              have hi0 : i = 0 := by simp only [List.length_cons] at hg1 hlt0; omega
              subst hi0
              have exz : x = .str z := by simpa using hx.symm
              subst exz
              have hzm := hgt z List.mem_cons_self
              refine ⟨_, rfl, _, rfl, (by show 1 ≤ sizeLine; decide), fun t nt => ?_⟩
              have sb := same_new (o := .tup [.str "mark"]) nt
              refine ⟨d, nmsD D, z, "mark", t, ["mark"], rfl, Ia.same sb, ?_, hD.nd, .inr (SqT.of upd_same), by simp, fun qq sl Hb sc eb => ?_⟩
              · exact List.mem_append_right _ (List.mem_map.mpr ⟨z, hzm, rfl⟩)
              refine ⟨_, rfl, _, _, _, _, rfl, ?_, (sa.trans sb).trans sc, (Ia.same sb).same sc⟩
              rw [if_neg (by omega)]
              unfold gateV
              rw [hgs]
          · rintro σ Ha ⟨w9, w10, w11, w12, rfl, rfl, sa, Ia⟩
            refine ⟨d, _, _, _, _, rfl, ?_, nd, sa, Ia⟩
            have ell : (strsV D.gates).length = D.gates.length := by unfold strsV; rw [List.length_map]
            rw [ell]
            cases hgs : D.gates with
            | nil =>
              unfold gateV
              rw [hgs]
              rfl
            | cons z r => rw [if_neg (by simp)]
      · refine ⟨_, rfl, pm, rfl, ⟨_, SqT.of (s2 _ _ hpm)⟩, ?_⟩
        refine for_enumT (K := K) (l := pm) (xs := strsV D.marks) (fun i σ H' => ∃ (v9 v10 v11 v12 : Option V), σ = [some (.ref p), some (.int D.width), some (.int D.cells), some (.int D.depth), some (.ref pp), some (.ref pm), some (.ref pg), some (.ref pk), some (.ref d), v9, v10, v11, v12] ∧ Same H H' ∧ NmI H' d (D.places.map (fun z => (z, ("place" : Str))) ++ (D.marks.take i).map (fun z => (z, ("mark" : Str))))) ⟨_, _, _, _, rfl, s2, by simpa using I2⟩ (fun i σ H' _ ⟨_, _, _, _, _, s', _⟩ => SqT.of (s' _ _ hpm)) ?_ ?_
        · rintro i x σ Ha T1 hx nT ⟨w9, w10, w11, w12, rfl, sa, Ia⟩
          obtain ⟨z, hz, rfl⟩ : ∃ z, D.marks[i]? = some z ∧ x = .str z := by
            unfold strsV at hx
            rw [List.getElem?_map] at hx
            cases hh : D.marks[i]? with
            | none => rw [hh] at hx; cases hx
            | some z => rw [hh] at hx; exact ⟨z, rfl, (Option.some.inj hx).symm⟩
          have hlt : i < D.marks.length := (List.getElem?_eq_some_iff.mp hz).1
          have hzi : D.marks[i] = z := (List.getElem?_eq_some_iff.mp hz).2
          have sb := same_new (o := .tup [.int (i : Int), .str z]) nT
          refine ⟨T1, _, rfl, SqT.of upd_same, rfl, _, _, rfl, _, _, rfl, rfl, ?_⟩
          refine ⟨_, rfl, _, rfl, _, rfl, (by show 2 ≤ sizeLine; decide), fun t nt => ?_⟩
          have sc := same_new (o := .tup [.str "is", .int (i : Int)]) nt
          have sac := sa.trans (sb.trans sc)
          have etk : (D.marks.take (i + 1)).map (fun z => (z, ("mark" : Str))) = (D.marks.take i).map (fun z => (z, ("mark" : Str))) ++ [(z, ("mark" : Str))] := by rw [List.take_succ, hz, List.map_append]; rfl
          refine ⟨d, _, z, "mark", .ref t, rfl, Ia.same (sb.trans sc), ?_, ?_, fun Hb Ib bb => ⟨_, _, _, _, rfl, same_but nd sac bb, ?_⟩⟩
          · have hh := hD.nd
            have e5 : nmsD D = (D.places.map (fun z => (z, ("place" : Str))) ++ (D.marks.take i).map (fun z => (z, ("mark" : Str)))) ++ ((z, ("mark" : Str)) :: (D.marks.drop (i + 1)).map (fun z => (z, ("mark" : Str)))) := by
              have := (List.take_append_drop i D.marks).symm
              rw [List.drop_eq_getElem_cons hlt, hzi] at this
              unfold nmsD
              (conv => lhs; rw [this]); simp
            rw [e5] at hh
            exact nd_mid hh
          · simp only [List.length_append, List.length_map, List.length_take, List.length_nil]
            have := hD.p4
            have := hD.m3
            omega
          · rw [etk, ← List.append_assoc]
            exact Ib
        · rintro σ Ha ⟨w9, w10, w11, w12, rfl, sa, Ia⟩
          have ell : (strsV D.marks).length = D.marks.length := by unfold strsV; rw [List.length_map]
          rw [ell, List.take_length] at Ia
          exact ⟨d, _, _, _, _, rfl, nd, sa, Ia⟩
    · refine ⟨_, rfl, pp, rfl, ⟨_, SqT.of (s1 _ _ hpp)⟩, ?_⟩
      refine for_enumT (K := K) (l := pp) (xs := strsV D.places) (fun i σ H' => ∃ (v9 v10 v11 v12 : Option V), σ = [some (.ref p), some (.int D.width), some (.int D.cells), some (.int D.depth), some (.ref pp), some (.ref pm), some (.ref pg), some (.ref pk), some (.ref d), v9, v10, v11, v12] ∧ Same H H' ∧ NmI H' d ([] ++ (D.places.take i).map (fun z => (z, ("place" : Str))))) ⟨_, _, _, _, rfl, s1, by simpa using I1⟩ (fun i σ H' _ ⟨_, _, _, _, _, s', _⟩ => SqT.of (s' _ _ hpp)) ?_ ?_
      · rintro i x σ Ha T1 hx nT ⟨w9, w10, w11, w12, rfl, sa, Ia⟩
        obtain ⟨z, hz, rfl⟩ : ∃ z, D.places[i]? = some z ∧ x = .str z := by
          unfold strsV at hx
          rw [List.getElem?_map] at hx
          cases hh : D.places[i]? with
          | none => rw [hh] at hx; cases hx
          | some z => rw [hh] at hx; exact ⟨z, rfl, (Option.some.inj hx).symm⟩
        have hlt : i < D.places.length := (List.getElem?_eq_some_iff.mp hz).1
        have hzi : D.places[i] = z := (List.getElem?_eq_some_iff.mp hz).2
        have sb := same_new (o := .tup [.int (i : Int), .str z]) nT
        refine ⟨T1, _, rfl, SqT.of upd_same, rfl, _, _, rfl, _, _, rfl, rfl, ?_⟩
        refine ⟨_, rfl, _, rfl, _, rfl, (by show 2 ≤ sizeLine; decide), fun t nt => ?_⟩
        have sc := same_new (o := .tup [.str "is", .int (i : Int)]) nt
        have sac := sa.trans (sb.trans sc)
        have etk : (D.places.take (i + 1)).map (fun z => (z, ("place" : Str))) = (D.places.take i).map (fun z => (z, ("place" : Str))) ++ [(z, ("place" : Str))] := by rw [List.take_succ, hz, List.map_append]; rfl
        refine ⟨d, _, z, "place", .ref t, rfl, Ia.same (sb.trans sc), ?_, ?_, fun Hb Ib bb => ⟨_, _, _, _, rfl, same_but nd sac bb, ?_⟩⟩
        · have hh := hD.nd
          have e5 : nmsD D = ([] ++ (D.places.take i).map (fun z => (z, ("place" : Str)))) ++ ((z, ("place" : Str)) :: (D.places.drop (i + 1)).map (fun z => (z, ("place" : Str))) ++ D.marks.map (fun z => (z, ("mark" : Str)))) := by
            have := (List.take_append_drop i D.places).symm
            rw [List.drop_eq_getElem_cons hlt, hzi] at this
            unfold nmsD
            (conv => lhs; rw [this]); simp
          rw [e5] at hh
          exact nd_mid hh
        · simp only [List.length_append, List.length_map, List.length_take, List.length_nil]
          have := hD.p4
          have := hD.m3
          omega
        · rw [etk, ← List.append_assoc]
          exact Ib
      · rintro σ Ha ⟨w9, w10, w11, w12, rfl, sa, Ia⟩
        have ell : (strsV D.places).length = D.places.length := by unfold strsV; rw [List.length_map]
        rw [ell, List.take_length] at Ia
        exact ⟨d, _, _, _, _, rfl, nd, sa, by simpa using Ia⟩
end
end L3
namespace L3
open PySem L2
def spRT (C : Addr) : Sp := fun xs H Q _ => ∃ (l : List Nat) (D : Fm), xs = [.str (S l)] ∧ l.length ≤ 20000 ∧ (TK.toks l).length ≤ 1500 ∧ FormAt ((TK.toks l).map S) D ∧ FmOk D ∧ ∀ v H', Same H H' → TabV C H' v D → Q v H'
theorem vs_strs (ts : List (List Nat)) : vs ts = strsV (ts.map S) := by
  unfold vs strsV
  rw [List.map_map]
  rfl
section
variable {P : Program} {w : World} {K : PySem.W.Frag} {mg : Str → Option Value} {base : Heap} {C : Addr} {tM : Tok}
theorem scRT : FnScope ["text"] ["text"] (defScope sReadTable) := ⟨rfl, rfl, rfl, by decide +kernel, rfl, by decide +kernel, by decide +kernel⟩
set_option maxHeartbeats 1000000 in
theorem ok_rt {f : Addr} {fd : FuncData} (F : Fun K "read_table" "read_table" sReadTable f fd) (B : Bl mg) (hM : mg "MOST_SIGNS" = some (.int 20000 tM)) (TO : Fn P w K mg base "tokens_of" 3 ["text"] spToks) (RF : Fn P w K mg base "read_form" 7 ["tokens"] spForm) (TF : Fn P w K mg base "table_of_form" 4 ["form"] (spTF C)) : FnOk P w K mg base CX0 8 f fd ["text"] (spRT C) := by
  refine F.ok scRT (fun vs H Q E h => ?_) (fun cdv A outer s H vs Q E hr h => ?_)
  · obtain ⟨l, D, rfl, _⟩ := h
    rfl
  · obtain ⟨l, D, rfl, hl, ht, hF, hO, q⟩ := h
    have hr3 : Room 3 _ := hr.mono (by decide)
    have hr4 : Room 4 _ := hr.mono (by decide)
    have sz : (100000 : Nat) ≤ sizeLine := by decide
    refine ⟨_, pss_cons (ps_if (PW.pt (pw_or (pt_not (pt_val (pe_callB (isi_ty (T := "str")) (by rfl) B.isinstance boot_isi (pa_cons (pv 0) (pa_cons (pe_ty (by rfl) B.str boot_str') pa_nil))))) (pw_or1 (pt_cmpR op_gt (pe_callB call_len_str (by rfl) B.len PySem.boot_len (pa_cons (pv 0) pa_nil)) (pe_glob (v := .int 20000) rfl hM ⟨_, rfl⟩) (nomark _))))) (pss_one ps_never) pss_nil)
      (pss_one (ps_ret (pe_fn TF hr4 rfl (pa_cons (pe_fn RF hr rfl (pa_cons (pe_fn TO hr3 rfl (pa_cons (pv 0) pa_nil)) pa_nil)) pa_nil)))), ?_⟩
    refine ⟨_, rfl, _, _, _, rfl, .str _, rfl, _, rfl, iteF ?_⟩
    refine ⟨_, rfl, S l, rfl, (by rw [S_len]; omega), _, _, rfl, rfl, _, rfl, iteB (decide_eq_false (by rw [S_len]; omega)) ?_⟩
    refine ⟨_, rfl, l, rfl, by omega, fun p H1 np e1 s1 => ?_⟩
    rw [vs_strs] at e1
    refine ⟨p, _, D, rfl, e1, by rw [List.length_map]; exact ht, hF, fun u H2 s2 hu => ?_⟩
    exact ⟨u, D, rfl, hu, hO, fun v H3 s3 hv => q v H3 (s1.trans (s2.trans s3)) hv⟩
end
end L3
namespace PySem
open Sem (wp)
section
open PySem.SeqAt
open PySem.AutoSeq1 (wpAny_loadPart')
open PySem.MeetsSeq PySem.MeetsSeq2 PySem.MeetsSeq3
theorem wpAny_forIn_rng {M : Model} {A : Around} {E : Value → Shared → Prop} {s : Shared} {β : Type} (f : Nat → β → Sem (ForInStep β)) (I : List Nat → β → Shared → Prop) (Q : β → Shared → Prop)
    (turn : ∀ (x : Nat) (rest : List Nat) (b : β) (s : Shared), I (x :: rest) b s → wpAny M A (f x b) (fun r s' => match r with | .yield b' => I rest b' s' | .done b' => Q b' s') E s)
    (fin : ∀ (b : β) (s : Shared), I [] b s → Q b s) (r : Std.Legacy.Range) (b : β) (h : I (List.range' r.start r.size r.step) b s) : wpAny M A (forIn r b f) Q E s := by
  rw [Std.Legacy.Range.forIn_eq_forIn_range']
  exact wpAny_forIn_list f I Q turn fin _ b h
theorem tuple_indexAt (l : Addr) (items : Array Value) (n : Nat) (dd : Option Addr) (sl : Array (Option Value)) (x : Value) (e : Value → Bool) (j : Nat) (hj : j < items.size) (he : e items[j] = true) (hn : ∀ (m : Nat) (hm : m < items.size), m < j → e items[m] = false) :
    Meets (Builtin.«tuple.index» ⟨[.ref l, x], []⟩) (fun A R s => s.heap.get? l = some { cls := .type "tuple", dict := dd, data := .seq items n, slots := sl } ∧ (∀ y ∈ items, EqAt A.in1 s y x (e y)) ∧ ∀ t k, R (.ok (.ret (.int j t))) { s with toks := k }) :=
  .of_wp fun prog w A R s h => by
    obtain ⟨hp, g, d, tk, os⟩ := s; obtain ⟨hl, hb, h⟩ := h
    wp_walk using wpAny_loadPart' hl, wpAny_forIn_rng _ (fun rest b s' => b.1 = none ∧ s' = ⟨hp, g, d, tk, os⟩ ∧ ∃ k, rest = List.range' k (items.size - k) ∧ k ≤ j) _
    case turn =>
      rintro i rest b s' ⟨hb', rfl, k, hr, hk⟩
      have hz : items.size - k = (items.size - (k + 1)) + 1 := by omega
      rw [hz, List.range'_succ] at hr
      injection hr with h1 h2
      subst h1
      have hki : i < items.size := by omega
      have hg : items[i]? = some items[i] := by simp [hki]
      rw [hg]
      have hq := hb items[i] (by simp)
      refine wpAny_bind (hq prog w _ _ ?_)
      by_cases hij : i = j
      · subst hij
        rw [he]
        wp_walk
        exact ⟨_, rfl, h _ _⟩
      · rw [hn i hki (by omega)]
        wp_walk
        exact ⟨rfl, rfl, i + 1, h2, by omega⟩
    case fin =>
      rintro b s' ⟨hb', rfl, k, hr, hk⟩
      have hz : items.size - k = (items.size - (k + 1)) + 1 := by omega
      rw [hz, List.range'_succ] at hr
      cases hr
    case h =>
      refine ⟨rfl, rfl, 0, ?_, Nat.zero_le _⟩
      simp [Std.Legacy.Range.size]
end
end PySem
namespace L2
open PySem PySem.Spec PyProof.Rows
section
variable {X : Cx}
theorem mt_tupIndex : MtR X "tuple.index" (fun x xs H Q => ∃ (p : Addr) (zs : List Str) (z : Str) (j : Nat), x = .ref p ∧ xs = [.str z] ∧ SqT X.K H p (zs.map V.str) ∧ zs[j]? = some z ∧ (∀ m, m < j → zs[m]? ≠ some z) ∧ Q (.int (j : Nat)) H) := by
  intro pins s σ H x xs v us Q I rx rv h
  obtain ⟨p, zs, z, j, rfl, rfl, hS, hj, hn, q⟩ := h
  cases rx
  obtain ⟨u, rfl, ru⟩ := rv.one
  obtain ⟨its, r, pl, hz⟩ := I.tuple hS
  have hfl : (zs.map V.str).all flatV = true := by
    rw [List.all_map]
    exact List.all_eq_true.mpr fun _ _ => rfl
  have hlen := r.length
  rw [List.length_map] at hlen
  have hjl : j < zs.length := (List.getElem?_eq_some_iff.mp hj).1
  have ev : ∀ m (hm : m < its.toArray.size), eqU (.str z) its.toArray[m] = decide (zs[m]? = some z) := fun m hm => by
    have hm' : m < zs.length := by rw [hlen]; simpa using hm
    obtain ⟨w, ew, rw'⟩ := r.get (i := m) (x := .str zs[m]) (by simp [hm'])
    have e2 : its.toArray[m] = w := by
      have := (List.getElem?_eq_some_iff.mp ew).2
      simpa using this
    rw [e2, eqU_of rw' rfl, List.getElem?_eq_getElem hm']
    show eqV (.str zs[m]) (.str z) = _
    by_cases hh : zs[m] = z
    · simp [hh, eqV]
    · simp [hh, eqV]
  obtain ⟨o, there, isC, n, isD⟩ := pl
  cases o with
  | mk oc od odt osl =>
    dsimp only at isC isD
    subst isC isD
    refine call_meets F.slot_tuple_index ⟨_, there, rfl⟩ F.entry_tuple_index (F.args_tuple_index_2 _ _) (tuple_indexAt p its.toArray n od osl u (eqU (.str z)) j (by simpa [← hlen] using hjl) ?_ ?_) ⟨there, fun w hw => mem_eqAt ru rfl r hfl w (by simpa using hw), fun t k => ⟨.int j, H, I.tok _, ⟨t, rfl⟩, q⟩⟩
    · rw [ev, hj]
      simp
    · intro m hm hmj
      rw [ev]
      simpa using hn m hmj
end
end L2
namespace PySem
open Sem (wp)
def IsItB : Bool → Heap → Addr → Addr → Nat → Prop
  | true, h, it, l, i => h.IsTupleIter it l i
  | false, h, it, l, i => h.IsListIter it l i
def IsSqB : Bool → Heap → Addr → Array Value → Prop
  | true, h, l, xs => h.IsTuple l xs
  | false, h, l, xs => h.IsList l xs
theorem IsItB.at {b : Bool} {h h' : Heap} {it l : Addr} {i : Nat} (a : IsItB b h it l i) (k : ∀ o, h.get? it = some o → h'.get? it = some o) : IsItB b h' it l i := by
  cases b with
  | true => exact (let ⟨o, x, y⟩ := a; ⟨o, k o x, y⟩ : h'.IsTupleIter it l i)
  | false => exact (let ⟨o, x, y⟩ := a; ⟨o, k o x, y⟩ : h'.IsListIter it l i)
theorem IsSqB.at {b : Bool} {h h' : Heap} {l : Addr} {xs : Array Value} (a : IsSqB b h l xs) (k : ∀ o, h.get? l = some o → h'.get? l = some o) : IsSqB b h' l xs := by
  cases b with
  | true => exact (let ⟨o, x, y⟩ := a; ⟨o, k o x, y⟩ : h'.IsTuple l xs)
  | false => exact (let ⟨o, x, y⟩ := a; ⟨o, k o x, y⟩ : h'.IsList l xs)
theorem IsItB.some {b : Bool} {h : Heap} {it l : Addr} {i : Nat} (a : IsItB b h it l i) : ∃ o, h.get? it = some o ∧ ∀ v, o.data ≠ .cell v := by
  cases b with
  | true => exact (let ⟨o, x, _, z⟩ := a; ⟨o, x, fun v q => by rw [z] at q; cases q⟩)
  | false => exact (let ⟨o, x, _, z⟩ := a; ⟨o, x, fun v q => by rw [z] at q; cases q⟩)
section
variable {prog : Program} {w : World} {A : Around} {E : Value → Shared → Prop} {s : Shared}
theorem nextB_item {b : Bool} {it l : Addr} {i : Nat} {items : Array Value} {x : Value} {Q : Value → Shared → Prop} (hit : IsItB b s.heap it l i) (hl : IsSqB b s.heap l items) (hx : items[i]? = some x)
    (hQ : ∀ h', IsItB b h' it l (i + 1) → Heap.SameBut it s.heap h' → Q x { s with heap := h' }) : wpAny (model prog w) A (Builtin.SmallTypes.nextOf (.ref it)) Q E s := by
  cases b with
  | true => exact nextOf_tuple_item hit hl hx hQ
  | false => exact wpAny_nextOf_list_item hit hl hx hQ
theorem nextB_end {b : Bool} {it l : Addr} {i : Nat} {items : Array Value} {Q : Value → Shared → Prop} (hh : A.handled = none) (hit : IsItB b s.heap it l i) (hl : IsSqB b s.heap l items) (hx : items[i]? = none)
    (hE : ∀ h' e, Heap.ExtBut it s.heap h' → (∃ o, h'.get? e = some o ∧ o.cls = .type "StopIteration") → E (.ref e) { s with heap := h' }) : wpAny (model prog w) A (Builtin.SmallTypes.nextOf (.ref it)) Q E s := by
  cases b with
  | true => exact nextOf_tuple_end hh hit hl hx hE
  | false => exact wpAny_nextOf_list_end hh hit hl hx hE
theorem zip_itemB {b1 b2 : Bool} {z TI TO i1 i2 l1 l2 : Addr} {k1 k2 : Nat} {xs ys : Array Value} {x y a b : Value} {Q : Value → Shared → Prop} (D : ZipApart z TI TO i1 i2 l1 l2) (hz : IsZip s.heap z TI TO .none) (hTI : IsPair s.heap TI (.ref i1) (.ref i2)) (hTO : IsPair s.heap TO a b)
    (h1 : IsItB b1 s.heap i1 l1 k1) (h2 : IsItB b2 s.heap i2 l2 k2) (q1 : IsSqB b1 s.heap l1 xs) (q2 : IsSqB b2 s.heap l2 ys) (hx : xs[k1]? = some x) (hy : ys[k2]? = some y)
    (hQ : ∀ h', IsZip h' z TI TO (rawInt s.heap.objs.size) → IsPair h' TO x y → IsItB b1 h' i1 l1 (k1 + 1) → IsItB b2 h' i2 l2 (k2 + 1) → IsPair h' s.heap.objs.size x y → h'.objs.size = s.heap.objs.size + 1 →
      (∀ c o, c ≠ z → c ≠ TO → c ≠ i1 → c ≠ i2 → s.heap.get? c = some o → h'.get? c = some o) → Q (.ref s.heap.objs.size) { s with heap := h' }) :
    wpAny (model prog w) A (Builtin.«zip.__next__» ⟨[.ref z], []⟩) (fun fin s' => ∃ v, fin = .done (.ret v) ∧ Q v s') E s := by
  show wpAny _ _ (field (.ref z) 2 >>= _) _ _ s
  refine wpAny_bind (wpAny_field hz rfl (x := .bool false) rfl ?_)
  show wpAny _ _ (field (.ref z) 3 >>= _) _ _ s
  refine wpAny_bind (wpAny_field hz rfl (x := .ref TI) rfl ?_)
  refine wpAny_bind (wpAny_seqItems hTI rfl ?_)
  show wpAny _ _ (Builtin.SmallTypes.ownedTupleIsFree (.ref z) >>= _) _ _ s
  refine wpAny_bind ?_
  unfold Builtin.SmallTypes.ownedTupleIsFree
  refine wpAny_bind (wpAny_field hz rfl (x := .none) rfl (wpAny_pure ?_))
  show wpAny _ _ (rule "zip.__next__.owned-tuple-again" >>= _) _ _ s
  refine wpAny_bind (wpAny_rule (wpAny_bind (wpAny_field hz rfl (x := .ref TO) rfl ?_)))
  show wpAny _ _ (setField (.ref z) 0 .ellipsis >>= _) _ _ s
  refine wpAny_bind (wpAny_setField hz rfl (by simp) ?_)
  have u1 := Heap.SameBut.update s.heap z (Obj.mapFields fun x_1 => x_1.setIfInBounds 0 Value.ellipsis)
  have z1 := Heap.get?_update_self (Obj.mapFields fun x_1 => x_1.setIfInBounds 0 Value.ellipsis) hz rfl
  generalize s.heap.update z (Obj.mapFields fun x_1 => x_1.setIfInBounds 0 Value.ellipsis) = hp1 at *
  show wpAny _ _ (forIn [(Value.ref i1, 0), (Value.ref i2, 1)] _ _ >>= _) _ _ _
  refine wpAny_bind ?_
  rw [List.forIn_cons]
  refine wpAny_bind ?_
  show wpAny _ _ (Sem.onRaise _ _ >>= _) _ _ _
  refine wpAny_bind (wpAny_onRaise ?_)
  show wpAny _ _ (Builtin.SmallTypes.nextOf (.ref i1) >>= _) _ _ _
  have e1 : ∀ c o, c ≠ z → s.heap.get? c = some o → hp1.get? c = some o := fun c o n q => (u1.2 c n).trans q
  refine wpAny_bind (nextB_item (h1.at fun o q => e1 _ o D.i1z q) (q1.at fun o q => e1 _ o D.l1z q) hx fun hp2 it2 u2 => wpAny_pure ?_)
  dsimp only at u2
  have e2 : ∀ c o, c ≠ z → c ≠ i1 → s.heap.get? c = some o → hp2.get? c = some o := fun c o n n' q => (u2.2 c n').trans (e1 c o n q)
  have o2 : hp2.get? TO = some { cls := .type "tuple", data := .seq #[a, b] } := e2 _ _ D.TOz D.TOi1 hTO
  show wpAny _ _ (seqItems? (.ref TO) >>= _) _ _ _
  refine wpAny_bind (wpAny_seqItems o2 rfl ?_)
  show wpAny _ _ (updateSeq TO _ >>= _) _ _ _
  refine wpAny_bind (wpAny_updateSeq o2 rfl ?_ (by show 2 ≤ sizeLine; decide) (by show 2 ≤ sizeLine + 1; decide))
  refine wpAny_bind (wpAny_letGo (wpAny_pure ?_))
  have u3 := Heap.SameBut.update hp2 TO (Obj.mapSeq fun x_1 => x_1.setIfInBounds 0 x)
  have o3 := Heap.get?_update_self (Obj.mapSeq fun x_1 => x_1.setIfInBounds 0 x) o2 rfl
  generalize hp2.update TO (Obj.mapSeq fun x_1 => x_1.setIfInBounds 0 x) = hp3 at *
  have e3 : ∀ c o, c ≠ z → c ≠ TO → c ≠ i1 → s.heap.get? c = some o → hp3.get? c = some o := fun c o n n' n2 q => (u3.2 c n').trans (e2 c o n n2 q)
  show wpAny _ _ (forIn [(Value.ref i2, 1)] _ _) _ _ _
  rw [List.forIn_cons]
  refine wpAny_bind ?_
  show wpAny _ _ (Sem.onRaise _ _ >>= _) _ _ _
  refine wpAny_bind (wpAny_onRaise ?_)
  show wpAny _ _ (Builtin.SmallTypes.nextOf (.ref i2) >>= _) _ _ _
  refine wpAny_bind (nextB_item (h2.at fun o q => e3 _ o D.i2z D.TOi2.symm D.i12.symm q) (q2.at fun o q => e3 _ o D.l2z D.l2TO D.l2i1 q) hy fun hp4 it4 u4 => wpAny_pure ?_)
  dsimp only at u4
  have o4 := (u4.2 TO D.TOi2).trans o3
  show wpAny _ _ (seqItems? (.ref TO) >>= _) _ _ _
  refine wpAny_bind (wpAny_seqItems o4 rfl ?_)
  show wpAny _ _ (updateSeq TO _ >>= _) _ _ _
  refine wpAny_bind (wpAny_updateSeq o4 rfl ?_ (by show 2 ≤ sizeLine; decide) (by show 2 ≤ sizeLine + 1; decide))
  refine wpAny_bind (wpAny_letGo (wpAny_pure ?_))
  have u5 := Heap.SameBut.update hp4 TO (Obj.mapSeq fun x_1 => x_1.setIfInBounds 1 y)
  have o5 := Heap.get?_update_self (Obj.mapSeq fun x_1 => x_1.setIfInBounds 1 y) o4 rfl
  generalize hp4.update TO (Obj.mapSeq fun x_1 => x_1.setIfInBounds 1 y) = hp5 at *
  have e5 : ∀ c o, c ≠ z → c ≠ TO → c ≠ i1 → c ≠ i2 → s.heap.get? c = some o → hp5.get? c = some o := fun c o n n' n2 n3 q => (u5.2 c n').trans ((u4.2 c n3).trans (e3 c o n n' n2 q))
  show wpAny _ _ (forIn [] _ _) _ _ _
  rw [List.forIn_nil]
  refine wpAny_pure ?_
  show wpAny _ _ (seqItems? (.ref TO) >>= _) _ _ _
  refine wpAny_bind (wpAny_seqItems o5 rfl ?_)
  show wpAny _ _ (newTuple [x, y] >>= _) _ _ _
  refine wpAny_bind (wpAny_newTuple ?_ (by show 2 ≤ sizeLine; decide))
  have sz : hp5.objs.size = s.heap.objs.size := by rw [u5.1, u4.1, u3.1, u2.1, u1.1]
  have z5 : hp5.get? z = some { cls := .type "zip", data := .fields #[.ellipsis, .bool false, .bool false, .ref TI, .ref TO] } := (u5.2 z D.TOz.symm).trans ((u4.2 z D.i2z.symm).trans ((u3.2 z D.TOz.symm).trans ((u2.2 z D.i1z.symm).trans z1)))
  have z6 := Heap.get?_push_of_some { cls := Value.type "tuple", data := Data.seq [x, y].toArray } z5
  have p6 := Heap.get?_push_size hp5 (o := { cls := Value.type "tuple", data := Data.seq [x, y].toArray }) rfl
  have k6 : ∀ c o, hp5.get? c = some o → (hp5.push { cls := Value.type "tuple", data := Data.seq [x, y].toArray }).get? c = some o := fun c o q => Heap.get?_push_of_some _ q
  have s6 : (hp5.push { cls := Value.type "tuple", data := Data.seq [x, y].toArray }).objs.size = hp5.objs.size + 1 := Heap.size_push ..
  generalize hp5.push { cls := Value.type "tuple", data := Data.seq [x, y].toArray } = hp6 at *
  have zs : z ≠ hp5.objs.size := Nat.ne_of_lt (Heap.lt_size z5)
  have t5 : hp5.get? TO = some { cls := .type "tuple", data := .seq #[x, y] } := o5
  show wpAny _ _ (Builtin.SmallTypes.ownedTupleHandOut (.ref z) (.ref hp5.objs.size) >>= _) _ _ _
  refine wpAny_bind ?_
  show wpAny _ _ (setField (.ref z) 0 (rawInt hp5.objs.size) >>= _) _ _ _
  refine wpAny_bind (wpAny_setField z6 rfl (by simp) ?_)
  have u7 := Heap.SameBut.update hp6 z (Obj.mapFields fun x_1 => x_1.setIfInBounds 0 (rawInt hp5.objs.size))
  have z7 := Heap.get?_update_self (Obj.mapFields fun x_1 => x_1.setIfInBounds 0 (rawInt hp5.objs.size)) z6 rfl
  generalize hp6.update z (Obj.mapFields fun x_1 => x_1.setIfInBounds 0 (rawInt hp5.objs.size)) = hp7 at *
  refine wpAny_setField z7 rfl (by simp [Obj.mapFields]) ?_
  have u8 := Heap.SameBut.update hp7 z (Obj.mapFields fun x_1 => x_1.setIfInBounds 1 (.bool false))
  have z8 := Heap.get?_update_self (Obj.mapFields fun x_1 => x_1.setIfInBounds 1 (.bool false)) z7 rfl
  generalize hp7.update z (Obj.mapFields fun x_1 => x_1.setIfInBounds 1 (.bool false)) = hp8 at *
  have k8 : ∀ c o, c ≠ z → hp5.get? c = some o → hp8.get? c = some o := fun c o n q => (u8.2 c n).trans ((u7.2 c n).trans (k6 c o q))
  refine wpAny_pure ⟨_, rfl, ?_⟩
  show Q (.ref hp5.objs.size) _
  rw [sz] at p6 z8 zs s6 ⊢
  refine hQ hp8 z8 (k8 _ _ D.TOz t5) ?_ ?_ ((u8.2 _ zs.symm).trans ((u7.2 _ zs.symm).trans p6)) (by rw [u8.1, u7.1, s6]) fun c o n1 n2 n3 n4 q => k8 c o n1 (e5 c o n1 n2 n3 n4 q)
  · refine it2.at fun o q => k8 _ o D.i1z ?_
    exact (u5.2 _ D.TOi1.symm).trans ((u4.2 _ D.i12).trans ((u3.2 _ D.TOi1.symm).trans q))
  · refine it4.at fun o q => k8 _ o D.i2z ?_
    exact (u5.2 _ D.TOi2.symm).trans q
theorem zip_endB {b1 b2 : Bool} {z TI TO i1 i2 l1 l2 : Addr} {k1 k2 : Nat} {xs ys : Array Value} {a b : Value} {Q : Fin → Shared → Prop} (hh : A.handled = none) (D : ZipApart z TI TO i1 i2 l1 l2) (hz : IsZip s.heap z TI TO .none) (hTI : IsPair s.heap TI (.ref i1) (.ref i2)) (hTO : IsPair s.heap TO a b)
    (h1 : IsItB b1 s.heap i1 l1 k1) (h2 : IsItB b2 s.heap i2 l2 k2) (q1 : IsSqB b1 s.heap l1 xs) (q2 : IsSqB b2 s.heap l2 ys) (hx : xs[k1]? = none)
    (hE : ∀ h' e, (∀ c o, c ≠ z → c ≠ TO → c ≠ i1 → c ≠ i2 → s.heap.get? c = some o → h'.get? c = some o) → (∃ o, h'.get? e = some o ∧ o.cls = .type "StopIteration") → E (.ref e) { s with heap := h' }) :
    wpAny (model prog w) A (Builtin.«zip.__next__» ⟨[.ref z], []⟩) Q E s := by
  show wpAny _ _ (field (.ref z) 2 >>= _) _ _ s
  refine wpAny_bind (wpAny_field hz rfl (x := .bool false) rfl ?_)
  show wpAny _ _ (field (.ref z) 3 >>= _) _ _ s
  refine wpAny_bind (wpAny_field hz rfl (x := .ref TI) rfl ?_)
  refine wpAny_bind (wpAny_seqItems hTI rfl ?_)
  show wpAny _ _ (Builtin.SmallTypes.ownedTupleIsFree (.ref z) >>= _) _ _ s
  refine wpAny_bind ?_
  unfold Builtin.SmallTypes.ownedTupleIsFree
  refine wpAny_bind (wpAny_field hz rfl (x := .none) rfl (wpAny_pure ?_))
  show wpAny _ _ (rule "zip.__next__.owned-tuple-again" >>= _) _ _ s
  refine wpAny_bind (wpAny_rule (wpAny_bind (wpAny_field hz rfl (x := .ref TO) rfl ?_)))
  show wpAny _ _ (setField (.ref z) 0 .ellipsis >>= _) _ _ s
  refine wpAny_bind (wpAny_setField hz rfl (by simp) ?_)
  have u1 := Heap.SameBut.update s.heap z (Obj.mapFields fun x_1 => x_1.setIfInBounds 0 Value.ellipsis)
  have z1 := Heap.get?_update_self (Obj.mapFields fun x_1 => x_1.setIfInBounds 0 Value.ellipsis) hz rfl
  generalize s.heap.update z (Obj.mapFields fun x_1 => x_1.setIfInBounds 0 Value.ellipsis) = hp1 at *
  show wpAny _ _ (forIn [(Value.ref i1, 0), (Value.ref i2, 1)] _ _ >>= _) _ _ _
  refine wpAny_bind ?_
  rw [List.forIn_cons]
  refine wpAny_bind ?_
  show wpAny _ _ (Sem.onRaise _ _ >>= _) _ _ _
  refine wpAny_bind (wpAny_onRaise ?_)
  show wpAny _ _ (Builtin.SmallTypes.nextOf (.ref i1) >>= _) _ _ _
  have e1 : ∀ c o, c ≠ z → s.heap.get? c = some o → hp1.get? c = some o := fun c o n q => (u1.2 c n).trans q
  refine wpAny_bind (nextB_end hh (h1.at fun o q => e1 _ o D.i1z q) (q1.at fun o q => e1 _ o D.l1z q) hx fun hp2 e u2 ex => ?_)
  dsimp only at u2
  obtain ⟨ox, hox, cx⟩ := ex
  have z2 := u2 _ _ D.i1z.symm z1
  refine wpAny_setField z2 rfl (by simp [Obj.mapFields]) ?_
  have u3 := Heap.SameBut.update hp2 z (Obj.mapFields fun x_1 => x_1.setIfInBounds 0 .none)
  have ez : e ≠ z := by
    rintro rfl
    rw [hox] at z2
    cases z2
    have cx' : Value.type "zip" = Value.type "StopIteration" := cx
    injection cx' with q
    exact absurd q (by decide)
  generalize hp2.update z (Obj.mapFields fun x_1 => x_1.setIfInBounds 0 .none) = hp3 at *
  exact hE hp3 e (fun c o n1 n2 n3 n4 q => (u3.2 c n1).trans (u2 c o n3 (e1 c o n1 q))) ⟨ox, (u3.2 e ez).trans hox, cx⟩
end
end PySem
namespace PySem
open Sem (wp)
open PySem.Spec PyProof.Rows
def itB (b : Bool) (l : Addr) : Obj := { cls := .type (if b then "tuple_iterator" else "list_iterator"), data := .fields #[.ref l, .int 0 0] }
def zB (h : Heap) (b1 b2 : Bool) (l1 l2 : Addr) : Heap := ((((h.push (itB b1 l1)).push (itB b2 l2)).push { cls := .type "tuple", data := .seq #[.ref h.objs.size, .ref (h.objs.size + 1)] }).push { cls := .type "tuple", data := .seq #[.none, .none] }).push
  { cls := .type "zip", data := .fields #[.none, .bool false, .bool false, .ref (h.objs.size + 2), .ref (h.objs.size + 3)] }
theorem pyIterB {prog : Program} {w : World} {A : Around} {E : Value → Shared → Prop} {s : Shared} {b : Bool} {l : Addr} {items : Array Value} {Q : Value → Shared → Prop} (h : IsSqB b s.heap l items) (hQ : Q (.ref s.heap.objs.size) { s with heap := s.heap.push (itB b l) }) : wpAny (model prog w) A (pyIter (.ref l)) Q E s := by
  cases b with
  | true => exact wpAny_pyIter_tuple h hQ
  | false => exact wpAny_pyIter_list h hQ
theorem made_zip (b1 b2 : Bool) (l1 l2 : Addr) (xs ys : Array Value) : Meets (Builtin.«zip.__new__» ⟨[.type "zip", .ref l1, .ref l2], []⟩) (fun _ R s =>
    IsSqB b1 s.heap l1 xs ∧ IsSqB b2 s.heap l2 ys ∧ R (.ok (.ret (.ref (s.heap.objs.size + 4)))) { s with heap := zB s.heap b1 b2 l1 l2 }) :=
  .of_wp fun prog w A R s both => by
    rcases s with ⟨hp, gs, dr, tk, sys⟩
    obtain ⟨q1, q2, good⟩ := both
    have under := sub_zip
    have i1 := fun {A : Around} {E Q} => @pyIterB prog w A E ⟨hp, gs, dr, tk, sys⟩ b1 l1 xs Q q1
    have i2 := fun {A : Around} {E Q} => @pyIterB prog w A E ⟨hp.push (itB b1 l1), gs, dr, tk, sys⟩ b2 l2 ys Q (q2.at fun o q => Heap.get?_push_of_some _ q)
    wp_walk using i1, i2
    refine ⟨_, rfl, ?_⟩
    have sz : ∀ (h : Heap) o, (h.push o).objs.size = h.objs.size + 1 := fun _ _ => Heap.size_push ..
    simp only [zB] at good
    simp only [sz]
    exact good
theorem zip_of {prog : Program} {w : World} {A : Around} {E : Value → Shared → Prop} {s : Shared} {b1 b2 : Bool} {l1 l2 : Addr} {xs ys : Array Value} {Q : Value → Shared → Prop} (q1 : IsSqB b1 s.heap l1 xs) (q2 : IsSqB b2 s.heap l2 ys)
    (h : ∀ h', IsZip h' (s.heap.objs.size + 4) (s.heap.objs.size + 2) (s.heap.objs.size + 3) .none → IsPair h' (s.heap.objs.size + 2) (.ref s.heap.objs.size) (.ref (s.heap.objs.size + 1)) → IsPair h' (s.heap.objs.size + 3) .none .none → IsItB b1 h' s.heap.objs.size l1 0 → IsItB b2 h' (s.heap.objs.size + 1) l2 0 →
      (∀ c o, s.heap.get? c = some o → h'.get? c = some o) → Q (.ref (s.heap.objs.size + 4)) { s with heap := h' }) : wpAny (model prog w) A (call (.type "zip") [.ref l1, .ref l2]) Q E s := by
  have sz : ∀ (h : Heap) o, (h.push o).objs.size = h.objs.size + 1 := fun _ _ => Heap.size_push ..
  have g0 : ∀ (h : Heap) (o : Obj) (n : Nat), h.objs.size = n → o.isFreed = false → (h.push o).get? n = some o := fun h o n e f => e ▸ Heap.get?_push_size h f
  have a1 : IsZip (zB s.heap b1 b2 l1 l2) (s.heap.objs.size + 4) (s.heap.objs.size + 2) (s.heap.objs.size + 3) .none := g0 _ _ _ (by simp only [sz]) rfl
  have a2 : IsPair (zB s.heap b1 b2 l1 l2) (s.heap.objs.size + 2) (.ref s.heap.objs.size) (.ref (s.heap.objs.size + 1)) := Heap.get?_push_of_some _ (Heap.get?_push_of_some _ (g0 _ _ _ (by simp only [sz]) rfl))
  have a3 : IsPair (zB s.heap b1 b2 l1 l2) (s.heap.objs.size + 3) .none .none := Heap.get?_push_of_some _ (g0 _ _ _ (by simp only [sz]) rfl)
  have f0 : ∀ b l, (itB b l).isFreed = false := fun _ _ => rfl
  have a4 : (zB s.heap b1 b2 l1 l2).get? s.heap.objs.size = some (itB b1 l1) := Heap.get?_push_of_some _ (Heap.get?_push_of_some _ (Heap.get?_push_of_some _ (Heap.get?_push_of_some _ (g0 _ _ _ rfl (f0 _ _)))))
  have a5 : (zB s.heap b1 b2 l1 l2).get? (s.heap.objs.size + 1) = some (itB b2 l2) := Heap.get?_push_of_some _ (Heap.get?_push_of_some _ (Heap.get?_push_of_some _ (g0 _ _ _ (by simp only [sz]) (f0 _ _))))
  have a6 : ∀ c o, s.heap.get? c = some o → (zB s.heap b1 b2 l1 l2).get? c = some o := fun c o q => Heap.get?_push_of_some _ (Heap.get?_push_of_some _ (Heap.get?_push_of_some _ (Heap.get?_push_of_some _ (Heap.get?_push_of_some _ q))))
  have ib : ∀ (b : Bool) (h : Heap) (a l : Addr), h.get? a = some (itB b l) → IsItB b h a l 0 := fun b h a l q => by
    cases b with
    | true => exact ⟨_, q, rfl, rfl⟩
    | false => exact ⟨_, q, rfl, rfl⟩
  refine callType_new F.called_zip (by decide) (F.typeCall_zip_2 _ _) (F.newCall_zip_2 _ _) (fun x => F.args_object_init_3 x _ _) F.entry_zip_new (made_zip b1 b2 l1 l2 xs ys) ⟨q1, q2, ?_⟩
  exact ⟨⟨_, a1, rfl⟩, h _ a1 a2 a3 (ib _ _ _ _ a4) (ib _ _ _ _ a5) a6⟩
theorem pyNext_zip_itemB {prog : Program} {w : World} {A : Around} {E : Value → Shared → Prop} {s : Shared} {b1 b2 : Bool} {z TI TO i1 i2 l1 l2 : Addr} {k1 k2 : Nat} {xs ys : Array Value} {x y a b : Value} {Q : Option Value → Shared → Prop} (D : ZipApart z TI TO i1 i2 l1 l2) (hz : IsZip s.heap z TI TO .none) (hTI : IsPair s.heap TI (.ref i1) (.ref i2)) (hTO : IsPair s.heap TO a b)
    (h1 : IsItB b1 s.heap i1 l1 k1) (h2 : IsItB b2 s.heap i2 l2 k2) (q1 : IsSqB b1 s.heap l1 xs) (q2 : IsSqB b2 s.heap l2 ys) (hx : xs[k1]? = some x) (hy : ys[k2]? = some y)
    (hQ : ∀ h', IsZip h' z TI TO (rawInt s.heap.objs.size) → IsPair h' TO x y → IsItB b1 h' i1 l1 (k1 + 1) → IsItB b2 h' i2 l2 (k2 + 1) → IsPair h' s.heap.objs.size x y → h'.objs.size = s.heap.objs.size + 1 →
      (∀ c o, c ≠ z → c ≠ TO → c ≠ i1 → c ≠ i2 → s.heap.get? c = some o → h'.get? c = some o) → Q (some (.ref s.heap.objs.size)) { s with heap := h' }) : wpAny (model prog w) A (pyNext (.ref z)) Q E s := by
  have hT : s.TypeIs (.ref z) "zip" := ⟨_, hz, rfl⟩
  unfold pyNext
  refine wpAny_bind (wpAny_attempt (wpAny_callSpecial?_slot (name := Str.ofString "__next__") hT PySem.F.slot_zip_next (wpAny_call_entry PySem.F.slot_zip_next hT PySem.F.entry_zip_next ?_ (PySem.F.args_zip_next_1 _))))
  refine zip_itemB (A := A.in1) D hz hTI hTO h1 h2 q1 q2 hx hy fun h' c1 c2 c3 c4 c5 c6 c7 => ?_
  exact wpAny_pure (hQ h' c1 c2 c3 c4 c5 c6 c7)
theorem pyNext_zip_endB {prog : Program} {w : World} {A : Around} {E : Value → Shared → Prop} {s : Shared} {b1 b2 : Bool} {z TI TO i1 i2 l1 l2 : Addr} {k1 k2 : Nat} {xs ys : Array Value} {a b : Value} {Q : Option Value → Shared → Prop} (hh : A.handled = none) (D : ZipApart z TI TO i1 i2 l1 l2) (hz : IsZip s.heap z TI TO .none) (hTI : IsPair s.heap TI (.ref i1) (.ref i2)) (hTO : IsPair s.heap TO a b)
    (h1 : IsItB b1 s.heap i1 l1 k1) (h2 : IsItB b2 s.heap i2 l2 k2) (q1 : IsSqB b1 s.heap l1 xs) (q2 : IsSqB b2 s.heap l2 ys) (hx : xs[k1]? = none)
    (hQ : ∀ h', (∀ c o, c ≠ z → c ≠ TO → c ≠ i1 → c ≠ i2 → s.heap.get? c = some o → h'.get? c = some o) → Q none { s with heap := h' }) : wpAny (model prog w) A (pyNext (.ref z)) Q E s := by
  have hT : s.TypeIs (.ref z) "zip" := ⟨_, hz, rfl⟩
  unfold pyNext
  refine wpAny_bind (wpAny_attempt (wpAny_callSpecial?_slot (name := Str.ofString "__next__") hT PySem.F.slot_zip_next (wpAny_call_entry PySem.F.slot_zip_next hT PySem.F.entry_zip_next ?_ (PySem.F.args_zip_next_1 _))))
  refine zip_endB (A := A.in1) (show A.in1.handled = none from hh) D hz hTI hTO h1 h2 q1 q2 hx fun h' e k ex => ?_
  obtain ⟨o, ho, hc⟩ := ex
  refine wpAny_bind (wpAny_isInstance (T := "StopIteration") (b := true) ⟨o, ho, hc⟩ isSubtype_stop ?_)
  exact wpAny_pure (hQ _ k)
end PySem
namespace L2
open PySem PySem.Spec PyProof.Rows
def SqB (K : PySem.W.Frag) : Bool → Hp → Addr → List V → Prop
  | true => SqT K
  | false => SqL K
theorem Inv.seqB {X : Cx} {pins : List (Addr × Obj)} {σ : St} {H : Hp} {s : Shared} {b : Bool} {l : Addr} {xs : List V} (I : Inv X pins σ H s) (h : SqB X.K b H l xs) : ∃ its, Vals xs its ∧ IsSqB b s.heap l its.toArray := by
  cases b with
  | true => exact (let ⟨its, r, p, _⟩ := I.tuple h; let ⟨o, a, b, n, c⟩ := p; ⟨its, r, o, a, b, n, c⟩)
  | false => exact (let ⟨its, r, p, _⟩ := I.list h; ⟨its, r, p.isList⟩)
theorem Inv.seqB_inj {X : Cx} {pins : List (Addr × Obj)} {σ : St} {H : Hp} {s : Shared} {b : Bool} {l : Addr} {xs ys : List V} (I : Inv X pins σ H s) (h : SqB X.K b H l xs) (h' : SqB X.K b H l ys) : xs = ys := by
  cases b with
  | true => exact I.tuple_inj h h'
  | false => exact I.list_inj h h'
theorem isSqB_lt {b : Bool} {h : Heap} {l : Addr} {xs : Array Value} (a : IsSqB b h l xs) : l < h.objs.size := by
  cases b with
  | true => exact (let ⟨_, e, _⟩ := a; Heap.lt_size e)
  | false => exact (let ⟨_, e, _⟩ := a; Heap.lt_size e)
def ItzB (K : PySem.W.Frag) (b1 b2 : Bool) (l1 l2 : Addr) : It :=
  ⟨fun i H => ∃ xs ys x y, SqB K b1 H l1 xs ∧ SqB K b2 H l2 ys ∧ xs[i]? = some x ∧ ys[i]? = some y,
   fun i H v H' => ∃ T x y, v = .ref T ∧ H T = none ∧ H' = upd H T (.tup [x, y]) ∧ (∀ xs, SqB K b1 H l1 xs → xs[i]? = some x) ∧ ∀ ys, SqB K b2 H l2 ys → ys[i]? = some y,
   fun i H => ∃ xs ys, SqB K b1 H l1 xs ∧ SqB K b2 H l2 ys ∧ xs.length ≤ i⟩
theorem turn_zipB {b1 b2 : Bool} {P : Program} {w : World} {K : PySem.W.Frag} {elts : List Expr} {kt : Nat} {tp : Pos} {z TI TO i1 i2 l1 l2 : Addr} (D : ZipApart z TI TO i1 i2 l1 l2) :
    Turn P w K (.Tuple elts kt tp) (ItzB K b1 b2 l1 l2) [z, TI, TO, i1, i2] z (fun i h => IsZip h z TI TO .none ∧ IsPair h TI (.ref i1) (.ref i2) ∧ (∃ a b, IsPair h TO a b) ∧ IsItB b1 h i1 l1 i ∧ IsItB b2 h i2 l2 i) where
  mem := by simp
  obj := fun i h st b hb => by
    obtain ⟨hz, hTI, ⟨a, c, hTO⟩, i1', i2'⟩ := st
    obtain ⟨o1, h1, d1⟩ := i1'.some
    obtain ⟨o2, h2, d2⟩ := i2'.some
    simp at hb
    rcases hb with rfl | rfl | rfl | rfl | rfl
    · exact ⟨_, hz, fun v q => by cases q⟩
    · exact ⟨_, hTI, fun v q => by cases q⟩
    · exact ⟨_, hTO, fun v q => by cases q⟩
    · exact ⟨_, h1, fun v q => d1 v q⟩
    · exact ⟨_, h2, fun v q => d2 v q⟩
  keep := fun i h h' st k => by
    obtain ⟨hz, hTI, ⟨a, c, hTO⟩, h1, h2⟩ := st
    exact ⟨k z (by simp) _ hz, k TI (by simp) _ hTI, ⟨a, c, k TO (by simp) _ hTO⟩, h1.at fun o e => k i1 (by simp) o e, h2.at fun o e => k i2 (by simp) o e⟩
  item := by
    intro X hP hw hK hc i pins s σ H E I hf st hg
    subst hP hw hK
    obtain ⟨xs, ys, x, y, hx, hy, ex, ey⟩ := hg
    obtain ⟨hz, hTI, ⟨a, c, hTO⟩, h1, h2⟩ := st
    obtain ⟨its1, rv1, p1⟩ := I.seqB hx
    obtain ⟨its2, rv2, p2⟩ := I.seqB hy
    obtain ⟨u1, eu1, ru1⟩ := rv1.get ex
    obtain ⟨u2, eu2, ru2⟩ := rv2.get ey
    refine pyNext_zip_itemB D hz hTI hTO h1 h2 p1 p2 (x := u1) (y := u2) (by simpa using eu1) (by simpa using eu2) fun h' a1 a2 a3 a4 a5 a6 a7 => ⟨_, rfl, ?_⟩
    refine wpAny_letOwnedTupleGo_zip a1 fun h'' b1 b2 => ?_
    have hT : H s.heap.objs.size = none := I.hok.fresh (Nat.le_refl _)
    have low : ∀ b o, s.heap.get? b = some o → b ≠ s.heap.objs.size := fun b o e => Nat.ne_of_lt (Heap.lt_size e)
    refine ⟨.ref s.heap.objs.size, upd H s.heap.objs.size (.tup [x, y]), ?_, rfl, ⟨s.heap.objs.size, x, y, rfl, hT, rfl, fun xs' h => by rw [I.seqB_inj h hx]; exact ex, fun ys' h => by rw [I.seqB_inj h hy]; exact ey⟩, ?_, fun b hb => ?_⟩
    · show Inv X pins σ (upd H s.heap.objs.size (.tup [x, y])) { s with heap := h'', toks := s.toks }
      refine Inv.turnedS (s := s) (h' := h'') (t' := s.toks) (ch := [z, TO, i1, i2]) I (fun b hb => hf b ?_) (fun b o hc e => ?_) (fun b o e => by rw [upd_ne (ne_of_none e hT)]; exact e) (fun b hb n => by rw [upd_ne (Nat.ne_of_lt hb)]; exact n) fun b o n e => ?_
      · simp at hb ⊢
        rcases hb with rfl | rfl | rfl | rfl <;> simp
      · simp at hc
        exact b2.extBut b o hc.1 (a7 b o hc.1 hc.2.1 hc.2.2.1 hc.2.2.2 e)
      · by_cases eb : b = s.heap.objs.size
        · subst eb
          rw [upd_same] at e
          cases e
          refine ⟨by show 2 ≤ sizeLine; decide, [u1, u2], .cons ru1 (.cons ru2 .nil), _, b2.extBut _ _ ?_ a5, rfl, _, rfl⟩
          exact fun q => low z _ hz q.symm
        · rw [upd_ne eb, n] at e
          cases e
    · refine ⟨b1, b2.extBut _ _ D.TIz (a7 _ _ D.TIz D.TITO D.TIi1 D.TIi2 hTI), ⟨_, _, b2.extBut _ _ D.TOz a2⟩, a3.at fun o e => b2.extBut _ o D.i1z e, a4.at fun o e => b2.extBut _ o D.i2z e⟩
    · have n := (hf b hb).1
      have : b ≠ s.heap.objs.size := by
        simp at hb
        obtain ⟨_, q1, _⟩ := h1.some
        obtain ⟨_, q2, _⟩ := h2.some
        rcases hb with rfl | rfl | rfl | rfl | rfl
        · exact low _ _ hz
        · exact low _ _ hTI
        · exact low _ _ hTO
        · exact low _ _ q1
        · exact low _ _ q2
      rw [upd_ne this]
      exact n
  done := by
    intro X hP hw hK hc i pins s σ H E I hf st hg
    subst hP hw hK
    obtain ⟨xs, ys, hx, hy, hl⟩ := hg
    obtain ⟨hz, hTI, ⟨a, c, hTO⟩, h1, h2⟩ := st
    obtain ⟨its1, rv1, p1⟩ := I.seqB hx
    obtain ⟨its2, rv2, p2⟩ := I.seqB hy
    have e1 := rv1.length
    have e2 := rv2.length
    have hend : its1.toArray[i]? = none := by simp; omega
    refine pyNext_zip_endB (I.ok.hd hc) D hz hTI hTO h1 h2 p1 p2 hend fun h' k => ⟨rfl, ?_⟩
    refine I.turnedS (t' := s.toks) (ch := [z, TO, i1, i2]) (fun b hb => hf b ?_) (fun b o hc e => ?_) (fun b o e => e) (fun b hb n => n) fun b o n e => ?_
    · simp at hb ⊢
      rcases hb with rfl | rfl | rfl | rfl <;> simp
    · simp at hc
      exact k b o hc.1 hc.2.1 hc.2.2.1 hc.2.2.2 e
    · rw [n] at e; cases e
  self := fun _ _ _ _ _ st h => wpAny_pyIter_zip st.1 h
section
variable {X : Cx}
def iZipB (b1 b2 : Bool) (K : PySem.W.Frag) (ta : TA) : TI := fun σ H R => ta σ H fun vs H1 => ∃ l1 l2, vs = [.ref l1, .ref l2] ∧ (∃ xs, SqB K b1 H1 l1 xs) ∧ (∃ ys, SqB K b2 H1 l2 ys) ∧ R (ItzB K b1 b2 l1 l2) H1
theorem pi_zipB (b1 b2 : Bool) {elts : List Expr} {kt : Nat} {tp : Pos} {a b : Expr} {ta : TA} {p pos : Pos} (hg : Gl X "zip") (hm : X.mg "zip" = none) (ha : PA X [a, b] ta) (hs : starEach [a, b] X.env = [(false, eval a X.env), (false, eval b X.env)] := by rfl) (hs2 : starEach [b] X.env = [(false, eval b X.env)] := by rfl) :
    PI X (.Tuple elts kt tp) (.Call (.Name "zip" p) [a, b] [] pos) (iZipB b1 b2 X.K ta) := by
  intro pins s σ H R I h
  refine Call_ (ld_blt I hg hm boot_zip (PyProof.Rows.callWith_type1 (thn (ha pos pins s σ H _ I h) fun us s1 ⟨vs, H1, I1, r1, q1⟩ => ?_) (by rw [hs, hs2]) (by rw [hs2]; rfl)))
  obtain ⟨l1, l2, e, ⟨xs, hx⟩, ⟨ys, hy⟩, q⟩ := q1
  subst e
  cases r1 with
  | cons r rr =>
    cases rr with
    | cons r' rr =>
      cases rr
      cases r
      cases r'
      obtain ⟨its1, rv1, p1⟩ := I1.seqB hx
      obtain ⟨its2, rv2, p2⟩ := I1.seqB hy
      refine zip_of p1 p2 fun h' a1 a2 a3 a4 a5 a7 => ?_
      refine wpAny_pyIter_zip a1 ?_
      have lt1 := isSqB_lt p1
      have lt2 := isSqB_lt p2
      refine ⟨_, [s1.heap.objs.size + 4, s1.heap.objs.size + 2, s1.heap.objs.size + 3, s1.heap.objs.size, s1.heap.objs.size + 1], _, _, H1, rfl, I1.kept (t' := s1.toks) a7, turn_zipB (PyProof.Rows.zipApart_new lt1 lt2), ⟨a1, a2, ⟨_, _, a3⟩, a4, a5⟩, fun b hb => ?_, q⟩
      have hb' : s1.heap.objs.size ≤ b := by
        simp only [List.mem_cons, List.not_mem_nil, or_false] at hb
        rcases hb with e | e | e | e | e <;> rw [e]
        · exact Nat.le_add_right _ _
        · exact Nat.le_add_right _ _
        · exact Nat.le_add_right _ _
        · exact Nat.le_refl _
        · exact Nat.le_add_right _ _
      exact I1.fpOk hb' (I1.hok.fresh hb')
end
theorem for_zipB {b1 b2 : Bool} {K : PySem.W.Frag} {l1 l2 : Addr} {xs ys : List V} {g : TG} {tb : TS} {D : Ends} {σ : St} {H : Hp} (hxy : xs.length = ys.length) (Pv : Nat → St → Hp → Prop) (h0 : Pv 0 σ H) (hl : ∀ i σ H, i ≤ xs.length → Pv i σ H → SqB K b1 H l1 xs ∧ SqB K b2 H l2 ys)
    (hs : ∀ i x y σ H T, xs[i]? = some x → ys[i]? = some y → H T = none → Pv i σ H → g (.ref T) σ (upd H T (.tup [x, y])) fun σ2 H2 => tb { D with nx := Pv (i + 1), ct := Pv (i + 1), bk := D.nx } σ2 H2) (hd : ∀ σ H, Pv xs.length σ H → D.nx σ H) :
    ∃ W : Nat → Nat → St → Hp → Prop, (∃ m, W 0 m σ H) ∧ ∀ i m σ H, W i m σ H →
      ((ItzB K b1 b2 l1 l2).stop i H ∧ D.nx σ H) ∨ ((ItzB K b1 b2 l1 l2).go i H ∧ ∃ N : St → Hp → Prop, (∀ σ' H', N σ' H' → ∃ m', m' < m ∧ W (i + 1) m' σ' H') ∧ ∀ x H', (ItzB K b1 b2 l1 l2).yld i H x H' → g x σ H' fun σ2 H2 => tb { D with nx := N, ct := N, bk := D.nx } σ2 H2) := by
  refine ⟨fun i m σ H => m = xs.length - i ∧ i ≤ xs.length ∧ Pv i σ H, ⟨xs.length, by simp, Nat.zero_le _, h0⟩, ?_⟩
  rintro i m σ H ⟨rfl, hi, p⟩
  obtain ⟨q1, q2⟩ := hl i σ H hi p
  by_cases hlt : i < xs.length
  · have hlt2 : i < ys.length := by omega
    refine .inr ⟨⟨xs, ys, xs[i], ys[i], q1, q2, by simp [hlt], by simp [hlt2]⟩, Pv (i + 1), fun σ' H' p' => ⟨xs.length - (i + 1), by omega, rfl, hlt, p'⟩, fun x H' y => ?_⟩
    obtain ⟨T, x1, y1, rfl, hT, rfl, ex, ey⟩ := y
    exact hs i x1 y1 σ H T (ex xs q1) (ey ys q2) hT p
  · have e : i = xs.length := by omega
    subst e
    exact .inl ⟨⟨xs, ys, q1, q2, Nat.le_refl _⟩, hd σ H p⟩
theorem lc_zipB {b1 b2 : Bool} {K : PySem.W.Frag} {l1 l2 : Addr} {xs ys : List V} {g : TG} {tf : TT} {te : TE} {ix : List (Option Nat)} {σ : St} {H : Hp} {Q : VK} (hxy : xs.length = ys.length) (Pv : Nat → List V → Hp → Prop) (h0 : Pv 0 [] H)
    (hl : ∀ i ys' H, i ≤ xs.length → Pv i ys' H → SqB K b1 H l1 xs ∧ SqB K b2 H l2 ys ∧ ys'.length ≤ sizeLine)
    (hs : ∀ i x y ys' H T, xs[i]? = some x → ys[i]? = some y → H T = none → Pv i ys' H → g (.ref T) (st0 ix σ) (upd H T (.tup [x, y])) fun σ2 H2 => ExtL (st0 ix σ) σ2 ∧ tf σ2 H2 fun b H3 => if b = true then te σ2 H3 fun y H4 => Nx Pv xs.length i (ys' ++ [y]) H4 else Nx Pv xs.length i ys' H3)
    (hd : ∀ ys' H, Pv xs.length ys' H → ∀ D, H D = none → Q (.ref D) (upd H D (.lst ys'))) : LcGo (ItzB K b1 b2 l1 l2) g tf te ix σ H Q := by
  refine ⟨fun i m ys' H => m = xs.length - i ∧ i ≤ xs.length ∧ Pv i ys' H, ⟨xs.length, by simp, Nat.zero_le _, h0⟩, ?_⟩
  rintro i m ys' H ⟨rfl, hi, p⟩
  obtain ⟨q1, q2, hz⟩ := hl i ys' H hi p
  by_cases hlt : i < xs.length
  · have hlt2 : i < ys.length := by omega
    refine .inr ⟨⟨xs, ys, xs[i], ys[i], q1, q2, by simp [hlt], by simp [hlt2]⟩, hz, fun x H' y => ?_⟩
    obtain ⟨T, x1, y1, rfl, hT, rfl, ex, ey⟩ := y
    exact hs i x1 y1 ys' H T (ex xs q1) (ey ys q2) hT p
  · have e : i = xs.length := by omega
    subst e
    exact .inl ⟨⟨xs, ys, q1, q2, Nat.le_refl _⟩, hz, hd ys' H p⟩
end L2
namespace L2
open PySem PySem.Spec PyProof.Rows
def tDUpd (td ty : TE) : TE := fun σ H Q => td σ H fun x H1 => ∃ a, x = .ref a ∧ IsD H1 a ∧ ty σ H1 fun y H2 => ∃ (b : Addr) (kvs more : List (Key × V)), y = .ref b ∧ a ≠ b ∧ H2 a = some (.dK kvs) ∧ H2 b = some (.dK more) ∧ kvs.length + more.length ≤ 1000 ∧ Q .non (upd H2 a (.dK (mergeK kvs more)))
theorem pe_dupd {X : Cx} {o e : Expr} {apos cpos : Pos} {td ty : TE} (ho : PE X o td) (he : PE X e ty) (m : M1 X o "update" apos e cpos) : PE X (.Call (.Attribute o "update" apos) [e] [] cpos) (tDUpd td ty) := by
  intro pins s σ H Q I h
  refine wpAny_Call_method m.base m.few m.line PySem.F.plainAttrs_dict PySem.F.slot_dict_update PySem.F.type_dict_update (thn (ho pins s σ H _ I h) fun u s1 ⟨x, H1, I1, rx, a, ex, d, q1⟩ => ?_)
  subst ex
  obtain rfl : u = Value.ref a := rx
  obtain ⟨t1, t2, _⟩ := isD_at I1 d
  refine ⟨t1, t2, ?_⟩
  rw [m.trees]
  refine Calls.callWith_builtin rfl (Calls.evalArgs_plain (Calls.spliced_cons (thn (he pins s1 σ H1 _ I1 q1) fun iv s2 ⟨y, H2, I2, ry, b, kvs, more, ey, hab, ea, eb, hl, q2⟩ => Calls.spliced_nil ?_)))
  subst ey
  cases ry
  obtain ⟨z1, hd1, vs, rel1, dd1⟩ := dk_of I2.hok ea
  obtain ⟨z2, hd2, ws, rel2, dd2⟩ := dk_of I2.hok eb
  have sz : (1000 : Nat) ≤ sizeLine := by decide
  refine call_meetsIn PySem.F.slot_dict_update dd1.typeIs PySem.F.entry_dict_update (PySem.F.args_dict_update_2 _ _) (meets_dict_update (mixKind X.prog X.w) a b hab hd2) ⟨vs, ws, dd1, dd2, by rw [← rel1.length, ← rel2.length]; omega, fun h' d1 d2 hs => ?_⟩
  have he : ∃ q, h'.get? a = some q := let ⟨q, _, _, hq, _⟩ := d1; ⟨q, hq⟩
  have hz : (mergeK kvs more).length ≤ sizeLine := by
    have h1 := length_mergeK more kvs
    omega
  exact ⟨.non, _, d_write I2 (by rw [ea]; exact True.intro) hs he (dk_new hz hd1 (rel2.merge rel1) d1), rfl, q2⟩
section
variable {X : Cx}
theorem fold_rep (c : Nat) : ∀ (n : Nat) (acc : Array Nat), (List.foldl (fun (x1 x2 : Array Nat) => x1 ++ x2) acc (List.replicate n #[c])) = acc ++ (List.replicate n c).toArray
  | 0, acc => by simp
  | n + 1, acc => by
    rw [List.replicate_succ, List.foldl_cons, fold_rep c n]
    apply Array.ext'
    simp [List.replicate_succ]
theorem op_mulS : OpR X (binaryOp .Mult) (fun x y H Q => ∃ (c n : Nat), x = .str (S [c]) ∧ y = .int n ∧ n ≤ 1000 ∧ Q (.str (S (List.replicate n c))) H) := by
  intro pins s σ H x y v u Q I rx ry h
  obtain ⟨c, n, rfl, rfl, hn, q⟩ := h
  obtain ⟨t, rfl⟩ := rx
  obtain ⟨t2, rfl⟩ := ry
  refine PySem.P.mul_str ?_ ?_ ?_ ?_
  · simp; omega
  · intro _ _
    have : (S [c]).length = 1 := rfl
    rw [this]
    intro hgt
    have : (1 : Int) ≤ (2 ^ 63 - 1) / (n : Int) := by
      rw [Int.le_ediv_iff_mul_le (by omega)]
      omega
    omega
  · intro _ _
    have : (S [c]).length = 1 := rfl
    rw [this]
    unfold Builtin.Str.tooLong
    have sz : (1000 : Nat) ≤ sizeLine := by decide
    simp
    omega
  · have fin : ∀ (z : Str) (t : Tok) (k : Nat), z = S (List.replicate n c) → EP X pins σ Q (.str z t) { s with toks := k } := fun z t k e => by
      subst e
      exact ⟨.str (S (List.replicate n c)), H, I.tok k, ⟨t, rfl⟩, q⟩
    have fin2 : ∀ (z : Str), z = S (List.replicate n c) → (Made.str z).post (EP X pins σ Q) s := fun z e => by
      refine ⟨?_, fin z _ _ e⟩
      subst e
      have sz : (1000 : Nat) ≤ sizeLine := by decide
      rw [S_len, List.length_replicate]
      omega
    by_cases h0 : (n : Int) < 1
    · rw [if_pos h0]
      refine fin2 _ ?_
      rw [show n = 0 by omega]
      rfl
    · rw [if_neg h0]
      by_cases h1 : ((n : Int) == 1 || (S [c]).length == 0) = true
      · rw [if_pos h1]
        have : n = 1 := by
          have e : (S [c]).length = 1 := rfl
          rw [e] at h1
          simp at h1
          omega
        subst this
        exact fin (S [c]) t s.toks rfl
      · rw [if_neg h1]
        refine fin2 _ ?_
        have : (S [c]).cps = #[c] := rfl
        rw [this, fold_rep]
        simp [S]
end
end L2
namespace L2
open PySem PySem.Spec PyProof.Rows
section
variable {X : Cx}
def tBMT (r : V → List V → Hp → VK → Prop) (to : TE) (t : TA) : TE := fun σ H Q => to σ H fun x H1 => ∃ p xs, x = .ref p ∧ H1 p = some (.tup xs) ∧ t σ H1 fun xs H2 => r x xs H2 Q
variable {o e : Expr} {es : List Expr} {to : TE} {t : TA} {name : Str} {apos cpos : Pos} {id : String} {r : V → List V → Hp → VK → Prop}
theorem pe_bmT (pa : PlainAttrs "tuple") (slot : Slot "tuple" name id) (hty : typeOf (.builtin id) = pure (.type "method_descriptor")) (hm : MtR X id r) (ho : PE X o to) (ha : PA X (e :: es) t)
    (hbase : attributeBase o name X.env (eval o X.env) = eval o X.env := by rfl)
    (hfew : ((backTo cpos (starEach (e :: es) X.env)).all (fun x => !x.1) && (backToKw cpos (keywordEach [] X.env)).all (fun x => x.1.isSome)
      && decide ((e :: es).length + ([] : List Keyword).length + (if ([] : List Keyword).isEmpty then 0 else 1) < 30)) = true := by rfl)
    (hline : (apos.endLine == cpos.line) = true := by rfl) (hs : starEach (e :: es) X.env = (false, eval e X.env) :: starEach es X.env := by rfl) (hplain : (backTo cpos (starEach es X.env)).any (·.1) = false := by rfl) :
    PE X (.Call (.Attribute o name apos) (e :: es) [] cpos) (tBMT r to t) := by
  intro pins s σ H Q I h
  refine wpAny_Call_method_late hbase hfew hline rfl (thn (ho pins s σ H _ I h) fun v s1 ⟨x, H1, I1, r1, p, xs, ex, hp, q1⟩ => ?_)
  subst ex
  cases r1
  obtain ⟨_, its, rv, ob, g1, g2, n, g3⟩ := (show ObjOk X.prog X.w H1 s1.heap p (.tup xs) from I1.hok p _ hp)
  have gc := (Prod.mk.inj g2).1
  have gd := (Prod.mk.inj g2).2
  refine ⟨"tuple", id, pa, slot, hty, ⟨ob, g1, gc⟩, fun a e => ?_, ?_⟩
  · cases e
    exact ⟨ob, g1, gd⟩
  have hA := ha cpos pins s1 σ H1 _ I1 q1
  rw [hs] at hA ⊢
  refine Calls.callWith_builtin (by show (false || (backTo cpos (starEach es X.env)).any (·.1)) = false; rw [hplain] <;> rfl) (Calls.evalArgs_plain ?_)
  exact thn hA fun us s2 ⟨vs, H2, I2, r2, q2⟩ => hm pins s2 σ H2 (.ref p) vs _ us Q I2 rfl r2 q2
theorem isi_tysL : CallR X (.builtin "isinstance") (fun xs H Q => ∃ (a : Addr) (ys : List V) (tp : Addr) (Ts : List String) (b : Bool), xs = [.ref a, .ref tp] ∧ H a = some (.lst ys) ∧ H tp = some (.tup (Ts.map V.ty)) ∧ PySem.W.kitAny X.K (.type "list") (Ts.map Value.type) = some b ∧ Q (.bl b) H) := by
  intro pins s σ H xs us Q I r h
  obtain ⟨a, ys, tp, Ts, b, rfl, ha, ht, e, q⟩ := h
  obtain ⟨u, u', rfl, rx, ry⟩ := vals2 r
  cases ry
  cases rx
  obtain ⟨_, its, rv, p⟩ := (show ObjOk X.prog X.w H s.heap tp (.tup (Ts.map V.ty)) from I.hok tp _ ht)
  have ei := vals_tys rv
  subst ei
  obtain ⟨o, h1, h2, h3⟩ := p.up
  obtain ⟨oc, od, oda, osl⟩ := o
  obtain ⟨n, h3⟩ := h3
  dsimp only at h2 h3
  subst h2 h3
  obtain ⟨its2, r2, pl, _⟩ := I.list (SqL.of ha : SqL X.K H a ys)
  exact PySem.W.kia_tup PySem.W.kitx_list I.kIn pl.isList.typeIs h1 e (fun z => nomatch z) fun tk => ⟨.bl _, H, I.tok _, rfl, q⟩
end
end L2
namespace L3
open PySem L2
abbrev sKindAt : Stmt := inClass (top 73) 1
abbrev sFieldsOf : Stmt := inClass (top 73) 2
def spKindAt (C : Addr) : Sp := fun vs H Q _ => ∃ v D z, ∃ j : Nat, vs = [v, .str z] ∧ TabV C H v D ∧ (D.kinds.map Kn.name)[j]? = some z ∧ (∀ m, m < j → (D.kinds.map Kn.name)[m]? ≠ some z) ∧ Q (.int j) H
def spFO (C : Addr) : Sp := fun vs H Q _ => ∃ v D, ∃ x : Kn, vs = [v, .str x.name] ∧ TabV C H v D ∧ FmOk D ∧ x ∈ D.kinds ∧ ∀ tf us, H tf = some (.tup us) → Paired (FldV H) us x.fs → Q (.ref tf) H
theorem nd_first {l : List Str} (nd : l.Nodup) {j : Nat} {z : Str} (h : l[j]? = some z) : ∀ m, m < j → l[m]? ≠ some z := by
  intro m hm e
  have h1 := (List.getElem?_eq_some_iff.mp h).1
  have h2 := (List.getElem?_eq_some_iff.mp h).2
  have h3 := (List.getElem?_eq_some_iff.mp e).1
  have h4 := (List.getElem?_eq_some_iff.mp e).2
  exact List.pairwise_iff_getElem.mp nd m j h3 h1 hm (by rw [h2, h4])
theorem pgetR {α β : Type} {R : α → β → Prop} : ∀ {xs : List α} {ys : List β}, Paired R xs ys → ∀ {i : Nat} {y : β}, ys[i]? = some y → ∃ x, xs[i]? = some x ∧ R x y
  | _, _, .cons h t, 0, y, e => by
    simp at e
    exact ⟨_, rfl, e ▸ h⟩
  | _, _, .cons h t, i + 1, y, e => by
    obtain ⟨x, a, b⟩ := pgetR t (i := i) (y := y) (by simpa using e)
    exact ⟨x, by simpa using a, b⟩
theorem at_mem {α : Type} {x : α} : ∀ {l : List α}, x ∈ l → ∃ j : Nat, l[j]? = some x := fun h => let ⟨j, hj, e⟩ := List.getElem_of_mem h; ⟨j, by rw [List.getElem?_eq_getElem hj, e]⟩
theorem TabV.same {C : Addr} {H H' : Hp} {v : V} {D : Fm} (h : TabV C H v D) (s : Same H H') : TabV C H' v D :=
  let ⟨a, dx, pp, pm, pn, pk, us, e, b, c, d, f, g, i⟩ := h
  ⟨a, dx, pp, pm, pn, pk, us, e, s _ _ b, s _ _ c, s _ _ d, s _ _ f, s _ _ g, pmap (fun _ _ h => KindV.kt (kt_same s) h) i⟩
section
variable {P : Program} {w : World} {K : PySem.W.Frag} {mg : Str → Option Value} {base : Heap} {C : Addr}
theorem scKindAt : FnScope ["self", "kind"] ["self", "kind"] (defScope sKindAt) := ⟨rfl, rfl, rfl, by decide +kernel, rfl, by decide +kernel, by decide +kernel⟩
theorem ok_kindAt {f : Addr} {fd : FuncData} (F : Fun K "kind_at" "Table.kind_at" sKindAt f fd) (T : Tc K C) : FnOk P w K mg base CX0 1 f fd ["self", "kind"] (spKindAt C) := by
  refine F.ok scKindAt (fun vs H Q E h => ?_) (fun cdv A outer s H vs Q E hr h => ?_)
  · obtain ⟨v, D, z, j, rfl, _⟩ := h
    rfl
  · obtain ⟨v, D, z, j, rfl, ⟨a, dx, pp, pm, pn, pk, us, rfl, ho, hpp, hpm, hpn, hpk, hus⟩, hj, hf, q⟩ := h
    refine ⟨_, pss_cons (ps_if (pt_cmpR op_notIn_seq (pv 1) (pe_fld (pv 0) rfl) rfl) (pss_one ps_never) pss_nil)
      (pss_one (ps_ret (pe_bmT PySem.F.plainAttrs_tuple PySem.F.slot_tuple_index PySem.F.type_tuple_index mt_tupIndex (pe_fld (pv 0) rfl) (pa_cons (pv 1) pa_nil)))), ?_⟩
    have hz : z ∈ D.kinds.map Kn.name := List.mem_of_getElem? hj
    refine ⟨_, rfl, _, rfl, a, C, dx, _, _, rfl, ho, T.cl, T.na "kinds" (by decide +kernel), rfl, pn, _, rfl, .inr (SqT.of hpn), rfl, flat_strs _, _, rfl, iteB ?_ ?_⟩
    · show (!inV (.str z) (strsV (D.kinds.map Kn.name))) = false
      rw [inV_strs, List.contains_iff_mem.mpr hz]
      rfl
    · exact ⟨_, rfl, a, C, dx, _, _, rfl, ho, T.cl, T.na "kinds" (by decide +kernel), rfl, pn, _, rfl, hpn, _, rfl, pn, _, z, j, rfl, rfl, SqT.of hpn, hj, hf, q⟩
theorem scFO : FnScope ["self", "kind"] ["self", "kind"] (defScope sFieldsOf) := ⟨rfl, rfl, rfl, by decide +kernel, rfl, by decide +kernel, by decide +kernel⟩
theorem ok_fo {f : Addr} {fd : FuncData} (F : Fun K "fields_of" "Table.fields_of" sFieldsOf f fd) (T : Tc K C) (KA : MthOk P w K mg base C "kind_at" 1 ["self", "kind"] (spKindAt C)) : FnOk P w K mg base CX0 2 f fd ["self", "kind"] (spFO C) := by
  refine F.ok scFO (fun vs H Q E h => ?_) (fun cdv A outer s H vs Q E hr h => ?_)
  · obtain ⟨v, D, x, rfl, _⟩ := h
    rfl
  · obtain ⟨v, D, x, rfl, hT, hD, hx, q⟩ := h
    obtain ⟨a, dx, pp, pm, pn, pk, us, rfl, ho, hpp, hpm, hpn, hpk, hus⟩ := id hT
    have hr1 : Room 1 _ := hr
    obtain ⟨f1, fd1, M1, F1, B1⟩ := KA
    refine ⟨_, pss_one (ps_ret (pe_ix ix_tup (pe_ix ix_tup (pe_fld (pv 0) rfl) (pe_methD (pv 0) (pa_cons (pv 1) pa_nil)) (fun _ _ => rfl)) pe_int (fun _ _ => rfl))), ?_⟩
    obtain ⟨j, hj⟩ := at_mem hx
    obtain ⟨u, hu, p, tf, b, fu, rfl, hp, htf, hfu, hb⟩ := pgetR hus hj
    have hjn : (D.kinds.map Kn.name)[j]? = some x.name := by rw [List.getElem?_map, hj]; rfl
    refine ⟨_, rfl, a, C, dx, _, _, rfl, ho, T.cl, T.na "kinds_known" (by decide +kernel), rfl, _, rfl, a, dx, C, f1, _, fd1, 1, ["self", "kind"], _, rfl, ho, rfl, T.cl, M1, F1, hr1, B1, _, rfl, _, D, x.name, j, rfl, hT, hjn, nd_first hD.kn hjn, ?_⟩
    exact ⟨pk, us, _, _, rfl, rfl, SqT.of hpk, atI_nat hu, p, _, _, _, rfl, rfl, SqT.of hp, rfl, q tf fu htf hfu⟩
end
end L3
namespace L3
open PySem L2
def bnd (D : Fm) (n : Nat) (st : Str) : Nat := if st = "place" then D.places.length else if st = "mark" then D.marks.length else if st = "number" then 2 ^ D.width else n + 1
def spWord : Sp := fun vs H Q _ => ∃ i w : Nat, vs = [.int i, .int w] ∧ w ≤ 24 ∧ i < 2 ^ w ∧ Q (.bl true) H
def spOperand (C : Addr) : Sp := fun vs H Q _ => ∃ v D st, ∃ i n : Nat, vs = [v, .str st, .int i, .int n] ∧ TabV C H v D ∧ D.width ≤ 24 ∧ i < bnd D n st ∧ Q (.bl true) H
section
variable {P : Program} {w : World} {K : PySem.W.Frag} {mg : Str → Option Value} {base : Heap} {C : Addr}
theorem scWord : FnScope ["thing", "width"] ["thing", "width"] (defScope sWord) := ⟨rfl, rfl, rfl, by decide +kernel, rfl, by decide +kernel, by decide +kernel⟩
theorem ok_word {f : Addr} {fd : FuncData} (F : Fun K "is_word" "is_word" sWord f fd) (WI : Fn P w K mg base "is_within" 2 ["thing", "low", "high"] spWithin) : FnOk P w K mg base CX0 3 f fd ["thing", "width"] spWord := by
  refine F.ok scWord (fun vs H Q E h => ?_) (fun cdv A outer s H vs Q E hr h => ?_)
  · obtain ⟨i, w, rfl, _⟩ := h
    rfl
  · obtain ⟨i, w, rfl, hw, hi, q⟩ := h
    refine ⟨_, pss_one (ps_ret (pe_fn WI hr rfl (pa_cons (pv 0) (pa_cons pe_int (pa_cons (pe_op op_sub (pe_op op_shl pe_int (pv 1)) pe_int) pa_nil))))), ?_⟩
    refine ⟨_, rfl, _, rfl, _, _, rfl, rfl, ?_, _, _, rfl, rfl, _, _, _, rfl, by omega, ?_, q⟩
    · unfold CPow
      refine ⟨by omega, by omega, by decide⟩
    · have e : ((w : Int)).toNat = w := by omega
      show (i : Int) ≤ 1 * 2 ^ ((w : Int)).toNat - 1
      rw [e]
      have : ((2 ^ w : Nat) : Int) = (2 : Int) ^ w := by norm_cast
      omega
theorem scOperand : FnScope ["table", "sort", "thing", "rows"] ["table", "sort", "thing", "rows"] (defScope sIsOperand) := ⟨rfl, rfl, rfl, by decide +kernel, rfl, by decide +kernel, by decide +kernel⟩
theorem ok_operand {f : Addr} {fd : FuncData} (F : Fun K "is_operand" "is_operand" sIsOperand f fd) (T : Tc K C) (B : Bl mg) (WI : Fn P w K mg base "is_within" 2 ["thing", "low", "high"] spWithin) (WO : Fn P w K mg base "is_word" 3 ["thing", "width"] spWord) : FnOk P w K mg base CX0 4 f fd ["table", "sort", "thing", "rows"] (spOperand C) := by
  refine F.ok scOperand (fun vs H Q E h => ?_) (fun cdv A outer s H vs Q E hr h => ?_)
  · obtain ⟨v, D, st, i, n, rfl, _⟩ := h
    rfl
  · obtain ⟨v, D, st, i, n, rfl, ⟨a, dx, pp, pm, pn, pk, us, rfl, ho, hpp, hpm, hpn, hpk, hus⟩, hw, hb, q⟩ := h
    have hr2 : Room 2 _ := hr.mono (by decide)
    refine ⟨_, pss_cons (ps_if (pt_cmpR op_eq (pv 1) pe_str (nomark _)) (pss_one (ps_ret (pe_fn WI hr2 rfl (pa_cons (pv 2) (pa_cons pe_int (pa_cons (pe_op op_sub (pe_callB call_len_seq (by rfl) B.len PySem.boot_len (pa_cons (pe_fld (pv 0) rfl) pa_nil)) pe_int) pa_nil)))))) pss_nil)
      (pss_cons (ps_if (pt_cmpR op_eq (pv 1) pe_str (nomark _)) (pss_one (ps_ret (pe_fn WI hr2 rfl (pa_cons (pv 2) (pa_cons pe_int (pa_cons (pe_op op_sub (pe_callB call_len_seq (by rfl) B.len PySem.boot_len (pa_cons (pe_fld (pv 0) rfl) pa_nil)) pe_int) pa_nil)))))) pss_nil)
      (pss_cons (ps_if (pt_cmpR op_eq (pv 1) pe_str (nomark _)) (pss_one (ps_ret (pe_fn WO hr rfl (pa_cons (pv 2) (pa_cons (pe_fld (pv 0) rfl) pa_nil))))) pss_nil)
      (pss_one (ps_ret (pe_fn WI hr2 rfl (pa_cons (pv 2) (pa_cons pe_int (pa_cons (pv 3) pa_nil)))))))), ?_⟩
    refine ⟨_, rfl, rfl, _, rfl, ite2 (fun h => ?_) (fun h => ?_)⟩
    · have h' : st = "place" := V.str.inj (of_decide_eq_true h)
      subst h'
      unfold bnd at hb
      rw [if_pos rfl] at hb
      refine ⟨_, rfl, _, rfl, a, C, dx, _, _, rfl, ho, T.cl, T.na "places" (by decide +kernel), rfl, pp, _, rfl, .inr (SqT.of hpp), _, _, rfl, rfl, _, _, _, rfl, by omega, ?_, q⟩
      unfold strsV
      rw [List.length_map]
      omega
    have n1 : st ≠ "place" := fun e => h (decide_eq_true (congrArg V.str e))
    refine ⟨_, rfl, rfl, _, rfl, ite2 (fun h => ?_) (fun h => ?_)⟩
    · have h' : st = "mark" := V.str.inj (of_decide_eq_true h)
      subst h'
      unfold bnd at hb
      rw [if_neg n1, if_pos rfl] at hb
      refine ⟨_, rfl, _, rfl, a, C, dx, _, _, rfl, ho, T.cl, T.na "marks" (by decide +kernel), rfl, pm, _, rfl, .inr (SqT.of hpm), _, _, rfl, rfl, _, _, _, rfl, by omega, ?_, q⟩
      unfold strsV
      rw [List.length_map]
      omega
    have n2 : st ≠ "mark" := fun e => h (decide_eq_true (congrArg V.str e))
    refine ⟨_, rfl, rfl, _, rfl, ite2 (fun h => ?_) (fun h => ?_)⟩
    · have h' : st = "number" := V.str.inj (of_decide_eq_true h)
      subst h'
      unfold bnd at hb
      rw [if_neg n1, if_neg n2, if_pos rfl] at hb
      exact ⟨_, rfl, _, rfl, a, C, dx, _, _, rfl, ho, T.cl, T.na "width" (by decide +kernel), rfl, _, _, rfl, hw, hb, q⟩
    have n3 : st ≠ "number" := fun e => h (decide_eq_true (congrArg V.str e))
    unfold bnd at hb
    rw [if_neg n1, if_neg n2, if_neg n3] at hb
    exact ⟨_, rfl, _, rfl, _, _, _, rfl, by omega, by omega, q⟩
end
end L3
namespace L3
open PySem L2
structure Rw where
  k : Kn
  ops : List Nat
def opsV (l : List Nat) : List V := l.map fun (n : Nat) => V.int (n : Int)
def RwOk (D : Fm) (n : Nat) (r : Rw) : Prop := r.k ∈ D.kinds ∧ Paired (fun o (f : Str × Str) => o < bnd D n f.2) r.ops r.k.fs
def RowV (H : Hp) (u : V) (r : Rw) : Prop := ∃ p t, u = .ref p ∧ H p = some (.tup [.str r.k.name, .ref t]) ∧ H t = some (.tup (opsV r.ops))
theorem RowV.kt {H H' : Hp} {u : V} {r : Rw} (k : TupK H H') (h : RowV H u r) : RowV H' u r := let ⟨p, t, a, b, c⟩ := h; ⟨p, t, a, k _ _ b, k _ _ c⟩
theorem ops_at {l : List Nat} {i : Nat} {x : V} (h : (opsV l)[i]? = some x) : ∃ o, l[i]? = some o ∧ x = .int (o : Int) := by
  unfold opsV at h
  rw [List.getElem?_map] at h
  cases e : l[i]? with
  | none => rw [e] at h; cases h
  | some o => rw [e] at h; exact ⟨o, rfl, (Option.some.inj h).symm⟩
structure Bl4 (mg : Str → Option Value) : Prop where
  zip : mg "zip" = none
def spIsRow (C : Addr) : Sp := fun vs H Q _ => ∃ v u D, ∃ (n : Nat) (r : Rw), vs = [v, u, .int n] ∧ TabV C H v D ∧ FmOk D ∧ D.width ≤ 24 ∧ RowV H u r ∧ RwOk D n r ∧ ∀ H', Same H H' → Q (.bl true) H'
section
variable {P : Program} {w : World} {K : PySem.W.Frag} {mg : Str → Option Value} {base : Heap} {C : Addr}
theorem scIsRow : FnScope ["table", "thing", "rows", "fields", "operands"] ["table", "thing", "rows"] (defScope sIsRow) := ⟨rfl, rfl, rfl, by decide +kernel, rfl, by decide +kernel, by decide +kernel⟩
theorem ndIR : (["name", "sort", "number", "rows", "table"] : List Str).Nodup := by decide +kernel
set_option maxHeartbeats 4000000 in
theorem ok_isRow {f : Addr} {fd : FuncData} (F : Fun K "is_row" "is_row" sIsRow f fd) (T : Tc K C) (B : Bl mg) (B4 : Bl4 mg) (FO : MthOk P w K mg base C "fields_of" 2 ["self", "kind"] (spFO C)) (IO : Fn P w K mg base "is_operand" 4 ["table", "sort", "thing", "rows"] (spOperand C)) : FnOk P w K mg base CX0 5 f fd ["table", "thing", "rows"] (spIsRow C) := by
  refine F.ok scIsRow (fun vs H Q E h => ?_) (fun cdv A outer s H vs Q E hr h => ?_)
  · obtain ⟨v, u, D, n, r, rfl, _⟩ := h
    rfl
  · obtain ⟨v, u, D, n, r, rfl, hT, hD, hw, ⟨p, t, rfl, hp, ht⟩, ⟨hk, hops⟩, q⟩ := h
    obtain ⟨a, dx, pp, pm, pn, pk, us, rfl, ho, hpp, hpm, hpn, hpk, hus⟩ := id hT
    have hr2 : Room 2 _ := hr.mono (by decide)
    obtain ⟨f1, fd1, M1, F1, B1⟩ := FO
    refine ⟨_, pss_cons (ps_if (PW.pt (pw_or (pt_not (pt_val (pe_callB (isi_ty (T := "tuple")) (by rfl) B.isinstance boot_isi (pa_cons (pv 1) (pa_cons (pe_ty (by rfl) B.tuple boot_tuple') pa_nil)))))
          (pw_or (pt_cmpR op_ne (pe_callB call_len_seq (by rfl) B.len PySem.boot_len (pa_cons (pv 1) pa_nil)) pe_int (nomark _))
          (pw_or1 (pt_cmpR op_notIn_seq (pe_ix ix_tup (pv 1) pe_int (fun _ _ => rfl)) (pe_fld (pv 0) rfl) rfl))))) (pss_one (ps_ret pe_bl)) pss_nil)
      (pss_cons (ps_set (i := 3) scIsRow.nd rfl (Or.inl rfl) (pe_methD (pv 0) (pa_cons (pe_ix ix_tup (pv 1) pe_int (fun _ _ => rfl)) pa_nil)))
      (pss_cons (ps_set (i := 4) scIsRow.nd rfl (Or.inl rfl) (pe_ix ix_tup (pv 1) pe_int (fun _ _ => rfl)))
      (pss_cons (ps_if (PW.pt (pw_or (pt_not (pt_val (pe_callB (isi_ty (T := "tuple")) (by rfl) B.isinstance boot_isi (pa_cons (pv 4) (pa_cons (pe_ty (by rfl) B.tuple boot_tuple') pa_nil)))))
          (pw_or1 (pt_cmpR op_ne (pe_callB call_len_seq (by rfl) B.len PySem.boot_len (pa_cons (pv 4) pa_nil)) (pe_callB call_len_seq (by rfl) B.len PySem.boot_len (pa_cons (pv 3) pa_nil)) (nomark _))))) (pss_one (ps_ret pe_bl)) pss_nil)
      (pss_one (ps_ret (pe_callB (call_all rfl) (by rfl) B.all boot_all' (pa_cons (pe_lc (N' := ["name", "sort", "number", "rows", "table"]) (ix := [none, none, none, some 2, some 0]) (sc0 := defScope sIsRow) (N := ["table", "thing", "rows", "fields", "operands"]) rfl (by decide +kernel) (pi_zipB true true rfl B4.zip (pa_cons (pv 3) (pa_cons (pv 4) pa_nil)))
        (fun C' cl s H fp => pg_tupK (K := K) (n := 2) rfl rfl (pgs_cons (pg_tupK (K := K) (n := 2) rfl rfl (pgs_cons (pg_name (i := 0) ndIR rfl (Or.inl rfl) (.inr rfl)) (pgs_cons (pg_name (i := 1) ndIR rfl (Or.inl rfl) (.inr rfl)) pgs_nil))) (pgs_cons (pg_name (i := 2) ndIR rfl (Or.inl rfl) (.inr rfl)) pgs_nil)))
        (fun _ _ _ _ _ => pf_nil) (fun C' cl s H fp => pe_fn IO hr rfl (pa_cons (pv 4) (pa_cons (pv 1) (pa_cons (pv 2) (pa_cons (pv 3) pa_nil)))))) pa_nil))))))), ?_⟩
    have hz : r.k.name ∈ D.kinds.map Kn.name := List.mem_map.mpr ⟨_, hk, rfl⟩
    refine ⟨_, rfl, _, _, _, rfl, .tup hp, rfl, _, rfl, iteF ?_⟩
    refine ⟨_, rfl, p, _, rfl, .inr (SqT.of hp), rfl, _, rfl, iteB (by simp) ?_⟩
    refine ⟨_, rfl, p, _, _, _, rfl, rfl, SqT.of hp, rfl, _, rfl, a, C, dx, _, _, rfl, ho, T.cl, T.na "kinds" (by decide +kernel), rfl, pn, _, rfl, .inr (SqT.of hpn), rfl, flat_strs _, _, rfl, iteB ?_ ?_⟩
    · show (!inV (.str r.k.name) (strsV (D.kinds.map Kn.name))) = false
      rw [inV_strs, List.contains_iff_mem.mpr hz]
      rfl
    refine ⟨_, rfl, a, dx, C, f1, _, fd1, 2, ["self", "kind"], _, rfl, ho, rfl, T.cl, M1, F1, hr2, B1, _, rfl, p, _, _, _, rfl, rfl, SqT.of hp, rfl, _, D, r.k, rfl, hT, hD, hk, fun tf fu htf hfu => ?_⟩
    refine ⟨_, rfl, p, _, _, _, rfl, rfl, SqT.of hp, rfl, ?_⟩
    refine ⟨_, rfl, _, _, _, rfl, .tup ht, rfl, _, rfl, iteF ?_⟩
    have l1 := hops.length
    have l2 := hfu.length
    have l3 : fu.length = (opsV r.ops).length := by unfold opsV; rw [List.length_map]; omega
    refine ⟨_, rfl, t, _, rfl, .inr (SqT.of ht), _, rfl, tf, _, rfl, .inr (SqT.of htf), rfl, _, rfl, iteB (by rw [l3]; simp) ?_⟩
    refine ⟨_, rfl, _, rfl, tf, t, rfl, ⟨_, SqT.of htf⟩, ⟨_, SqT.of ht⟩, ?_⟩
    have f3 := (hD.kf _ hk).2
    have sz : (1000 : Nat) ≤ sizeLine := by decide
    refine lc_zipB (b1 := true) (b2 := true) (K := K) (l1 := tf) (l2 := t) (xs := fu) (ys := opsV r.ops) l3 (fun i ys' H' => Same H H' ∧ ys' = (List.replicate i true).map V.bl) ⟨Same.refl _, rfl⟩ (fun i ys' H' hi ⟨s1, e1⟩ => ⟨SqT.of (s1 _ _ htf), SqT.of (s1 _ _ ht), by rw [e1, List.length_map, List.length_replicate]; omega⟩) ?_ ?_
    · rintro i x y ys' H' T1 hx hy nT ⟨s1, rfl⟩
      obtain ⟨fl, hfl, fp, rfl, hfp⟩ := pget hfu hx
      obtain ⟨o, hoo, rfl⟩ := ops_at hy
      obtain ⟨fl2, hfl2, hb⟩ := pget hops hoo
      have e2 : fl2 = fl := by
        rw [hfl] at hfl2
        exact (Option.some.inj hfl2).symm
      subst e2
      have s2 := same_new (o := .tup [.ref fp, .int (o : Int)]) nT
      have s12 := s1.trans s2
      refine ⟨T1, _, rfl, SqT.of upd_same, rfl, _, _, rfl, ⟨fp, _, rfl, SqT.of (s12 _ _ hfp), rfl, _, _, rfl, _, _, rfl, rfl, _, _, rfl, rfl, ⟨rfl, rfl, trivial⟩, tAny_T ?_⟩⟩
      refine ⟨_, rfl, _, rfl, _, rfl, _, rfl, _, D, fl2.2, o, n, rfl, hT.same s12, hw, hb, ?_⟩
      refine Nx.mk (List.getElem?_eq_some_iff.mp hx).1 ⟨s12, ?_⟩
      rw [List.replicate_succ', List.map_append]
      rfl
    · rintro ys' H' ⟨s1, rfl⟩ D' hD'
      refine ⟨D', List.replicate fu.length true, rfl, SqL.of upd_same, ?_⟩
      have : (List.replicate fu.length true).all id = true := by simp
      rw [this]
      exact q _ (s1.trans (same_new hD'))
end
end L3
namespace L3
open PySem L2
def shO (D : Fm) (st : Str) (i : Nat) : Str := if st = "place" then D.places.getD i "" else if st = "mark" then D.marks.getD i "" else (toString (i : Int) : Str)
def shown (D : Fm) (r : Rw) : List Str := (r.ops.zip r.k.fs).map fun x => shO D x.2.2 x.1
def spOS (C : Addr) : Sp := fun vs H Q _ => ∃ v D st, ∃ i n : Nat, vs = [v, .str st, .int i] ∧ TabV C H v D ∧ D.width ≤ 24 ∧ n ≤ 1000 ∧ i < bnd D n st ∧ Q (.str (shO D st i)) H
def spORd (C : Addr) : Sp := fun vs H Q _ => ∃ v D st, ∃ i n : Nat, vs = [v, .str st, .str (shO D st i)] ∧ TabV C H v D ∧ FmOk D ∧ D.width ≤ 24 ∧ n ≤ 1000 ∧ i < bnd D n st ∧ ∀ H', Same H H' → Q (.int i) H'
def bellC : List Nat := [98, 101, 108, 108, 32]
def spRB : Sp := fun vs H Q _ => ∃ b n : Nat, vs = [.str (S (bellC ++ dg b)), .int n] ∧ b ≤ n ∧ n ≤ 1000 ∧ ∀ H', Same H H' → Q (.int b) H'
theorem bnd_lt {D : Fm} {n i : Nat} {st : Str} (hw : D.width ≤ 24) (hn : n ≤ 1000) (h : i < bnd D n st) (n1 : st ≠ "place") (n2 : st ≠ "mark") : i < 2 ^ 25 := by
  unfold bnd at h
  rw [if_neg n1, if_neg n2] at h
  have : 2 ^ D.width ≤ 2 ^ 24 := Nat.pow_le_pow_right (by decide) hw
  split at h <;> omega
theorem log_small {i : Nat} (h : i < 2 ^ 25) : ((i : Nat) : Int).natAbs.log2 < 1920 := by
  rw [Int.natAbs_natCast]
  by_cases h0 : i = 0
  · rw [h0]; decide
  · rw [Nat.log2_lt h0]
    exact Nat.lt_of_lt_of_le h (Nat.pow_le_pow_right (by decide) (by decide))
theorem getD_at {l : List Str} {i : Nat} (h : i < l.length) : (strsV l)[i]? = some (.str (l.getD i "")) := by
  unfold strsV
  rw [List.getElem?_map, List.getElem?_eq_getElem h]
  simp [h]
theorem getD_at' {l : List Str} {i : Nat} (h : i < l.length) : l[i]? = some (l.getD i "") := by
  rw [List.getElem?_eq_getElem h]
  simp [h]
structure Zb (mg : Str → Option Value) (tb : Tok) : Prop where
  bell : mg "BELL" = some (.str "bell" tb)
section
variable {P : Program} {w : World} {K : PySem.W.Frag} {mg : Str → Option Value} {base : Heap} {C : Addr} {tb : Tok}
theorem scOS : FnScope ["table", "sort", "number"] ["table", "sort", "number"] (defScope sOperandShown) := ⟨rfl, rfl, rfl, by decide +kernel, rfl, by decide +kernel, by decide +kernel⟩
theorem ok_os {f : Addr} {fd : FuncData} (F : Fun K "operand_shown" "operand_shown" sOperandShown f fd) (T : Tc K C) (B : Bl mg) : FnOk P w K mg base CX0 1 f fd ["table", "sort", "number"] (spOS C) := by
  refine F.ok scOS (fun vs H Q E h => ?_) (fun cdv A outer s H vs Q E hr h => ?_)
  · obtain ⟨v, D, st, i, n, rfl, _⟩ := h
    rfl
  · obtain ⟨v, D, st, i, n, rfl, ⟨a, dx, pp, pm, pn, pk, us, rfl, ho, hpp, hpm, hpn, hpk, hus⟩, hw, hn, hb, q⟩ := h
    refine ⟨_, pss_cons (ps_if (pt_cmpR op_eq (pv 1) pe_str (nomark _)) (pss_one (ps_ret (pe_ix ix_tup (pe_fld (pv 0) rfl) (pv 2) (fun _ _ => rfl)))) pss_nil)
      (pss_cons (ps_if (pt_cmpR op_eq (pv 1) pe_str (nomark _)) (pss_one (ps_ret (pe_ix ix_tup (pe_fld (pv 0) rfl) (pv 2) (fun _ _ => rfl)))) pss_nil)
      (pss_one (ps_ret (pe_callTy call_str_int (by rfl) B.str boot_str' (pa_cons (pv 2) pa_nil))))), ?_⟩
    have hb0 := hb
    refine ⟨_, rfl, rfl, _, rfl, ite2 (fun h => ?_) (fun h => ?_)⟩
    · have h' : st = "place" := V.str.inj (of_decide_eq_true h)
      subst h'
      unfold bnd at hb
      unfold shO at q
      rw [if_pos rfl] at hb q
      exact ⟨_, rfl, a, C, dx, _, _, rfl, ho, T.cl, T.na "places" (by decide +kernel), rfl, _, rfl, pp, _, _, _, rfl, rfl, SqT.of hpp, atI_nat (getD_at hb), q⟩
    have n1 : st ≠ "place" := fun e => h (decide_eq_true (congrArg V.str e))
    refine ⟨_, rfl, rfl, _, rfl, ite2 (fun h => ?_) (fun h => ?_)⟩
    · have h' : st = "mark" := V.str.inj (of_decide_eq_true h)
      subst h'
      unfold bnd at hb
      unfold shO at q
      rw [if_neg n1, if_pos rfl] at hb q
      exact ⟨_, rfl, a, C, dx, _, _, rfl, ho, T.cl, T.na "marks" (by decide +kernel), rfl, _, rfl, pm, _, _, _, rfl, rfl, SqT.of hpm, atI_nat (getD_at hb), q⟩
    have n2 : st ≠ "mark" := fun e => h (decide_eq_true (congrArg V.str e))
    unfold shO at q
    rw [if_neg n1, if_neg n2] at q
    exact ⟨_, rfl, _, rfl, log_small (bnd_lt hw hn hb0 n1 n2), q⟩
theorem scORd : FnScope ["table", "sort", "word", "names"] ["table", "sort", "word"] (defScope sOperandRead) := ⟨rfl, rfl, rfl, by decide +kernel, rfl, by decide +kernel, by decide +kernel⟩
set_option maxHeartbeats 1000000 in
theorem ok_ord {f : Addr} {fd : FuncData} (F : Fun K "operand_read" "operand_read" sOperandRead f fd) (T : Tc K C) (NU : Fn P w K mg base "number_of" 1 ["token"] spNumOf) : FnOk P w K mg base CX0 2 f fd ["table", "sort", "word"] (spORd C) := by
  refine F.ok scORd (fun vs H Q E h => ?_) (fun cdv A outer s H vs Q E hr h => ?_)
  · obtain ⟨v, D, st, i, n, rfl, _⟩ := h
    rfl
  · obtain ⟨v, D, st, i, n, rfl, ⟨a, dx, pp, pm, pn, pk, us, rfl, ho, hpp, hpm, hpn, hpk, hus⟩, hD, hw, hn, hb, q⟩ := h
    have hnd := hD.nd
    unfold nmsD at hnd
    rw [List.map_append, List.map_map, List.map_map] at hnd
    have e1 : ∀ (l : List Str) (z : Str), l.map ((fun x : Str × Str => x.1) ∘ fun y => (y, z)) = l := fun l z => by
      induction l with
      | nil => rfl
      | cons a r ih => rw [List.map_cons, ih]; rfl
    rw [e1, e1] at hnd
    have ndp := (List.nodup_append.mp hnd).1
    have ndm := (List.nodup_append.mp hnd).2.1
    refine ⟨_, pss_cons (ps_if (pt_cmpR op_in_seq (pv 1) (pe_tup (pa_cons pe_str (pa_cons pe_str pa_nil))) rfl)
        (pss_cons (ps_set (i := 3) scORd.nd rfl (Or.inl rfl) (pe_ifExp (pt_cmpR op_eq (pv 1) pe_str (nomark _)) (pe_fld (pv 0) rfl) (pe_fld (pv 0) rfl)))
        (pss_one (ps_ret (pe_ifExp (pt_cmpR op_in_seq (pv 2) (pv 3) rfl) (pe_bmT PySem.F.plainAttrs_tuple PySem.F.slot_tuple_index PySem.F.type_tuple_index mt_tupIndex (pv 3) (pa_cons (pv 2) pa_nil)) pe_non)))) pss_nil)
      (pss_one (ps_ret (pe_fn NU hr rfl (pa_cons (pv 2) pa_nil)))), ?_⟩
    refine ⟨_, rfl, (by show 2 ≤ sizeLine; decide), fun t nt => ?_⟩
    have s1 := same_new (o := .tup [.str "place", .str "mark"]) nt
    have e2 : (upd H t (.tup [.str "place", .str "mark"])) t = some (.tup [.str "place", .str "mark"]) := upd_same
    generalize upd H t (.tup [.str "place", .str "mark"]) = H1 at *
    have e3 : inV (.str st) [.str "place", .str "mark"] = (["place", "mark"] : List Str).contains st := inV_strs st ["place", "mark"]
    refine ⟨t, _, rfl, .inr (SqT.of e2), rfl, rfl, _, rfl, ite2 (fun h => ?_) (fun h => ?_)⟩
    · have h5 : (["place", "mark"] : List Str).contains st = true := by rw [← e3]; exact h
      by_cases h' : st = "place"
      · subst h'
        unfold bnd at hb
        rw [if_pos rfl] at hb
        have e5 : shO D "place" i = D.places.getD i "" := by unfold shO; rw [if_pos rfl]
        have e6 := getD_at' hb
        rw [← e5] at e6
        refine ⟨_, rfl, rfl, _, rfl, iteA (by simp) ⟨_, rfl, a, C, dx, _, _, rfl, s1 _ _ ho, T.cl, T.na "places" (by decide +kernel), rfl, ?_⟩⟩
        refine ⟨_, rfl, _, rfl, pp, _, rfl, .inr (SqT.of (s1 _ _ hpp)), rfl, flat_strs _, _, rfl, iteA ?_ ?_⟩
        · show inV (.str (shO D "place" i)) (strsV D.places) = true
          rw [inV_strs]
          exact List.contains_iff_mem.mpr (List.mem_of_getElem? e6)
        · exact ⟨_, rfl, pp, _, rfl, s1 _ _ hpp, _, rfl, pp, _, _, i, rfl, rfl, SqT.of (s1 _ _ hpp), e6, nd_first ndp e6, q _ s1⟩
      · have h2 : st = "mark" := by
          have := List.contains_iff_mem.mp h5
          simp [h'] at this
          exact this
        subst h2
        unfold bnd at hb
        rw [if_neg h', if_pos rfl] at hb
        have e5 : shO D "mark" i = D.marks.getD i "" := by unfold shO; rw [if_neg h', if_pos rfl]
        have e6 := getD_at' hb
        rw [← e5] at e6
        refine ⟨_, rfl, rfl, _, rfl, iteB (decide_eq_false fun e => h' (V.str.inj e)) ⟨_, rfl, a, C, dx, _, _, rfl, s1 _ _ ho, T.cl, T.na "marks" (by decide +kernel), rfl, ?_⟩⟩
        refine ⟨_, rfl, _, rfl, pm, _, rfl, .inr (SqT.of (s1 _ _ hpm)), rfl, flat_strs _, _, rfl, iteA ?_ ?_⟩
        · show inV (.str (shO D "mark" i)) (strsV D.marks) = true
          rw [inV_strs]
          exact List.contains_iff_mem.mpr (List.mem_of_getElem? e6)
        · exact ⟨_, rfl, pm, _, rfl, s1 _ _ hpm, _, rfl, pm, _, _, i, rfl, rfl, SqT.of (s1 _ _ hpm), e6, nd_first ndm e6, q _ s1⟩
    · have h5 : (["place", "mark"] : List Str).contains st = false := by rw [← e3]; exact Bool.eq_false_iff.mpr h
      have n1 : st ≠ "place" := by rintro rfl; revert h5; decide +kernel
      have n2 : st ≠ "mark" := by rintro rfl; revert h5; decide +kernel
      have hl := bnd_lt hw hn hb n1 n2
      have e5 : shO D st i = (toString (i : Int) : Str) := by unfold shO; rw [if_neg n1, if_neg n2]
      exact ⟨_, rfl, i, by rw [e5], by omega, fun H2 s2 => q _ (s1.trans s2)⟩
theorem scRB : FnScope ["line", "rows", "number"] ["line", "rows"] (defScope sReadBell) := ⟨rfl, rfl, rfl, by decide +kernel, rfl, by decide +kernel, by decide +kernel⟩
theorem ok_rb {f : Addr} {fd : FuncData} (F : Fun K "read_bell" "read_bell" sReadBell f fd) (B : Bl mg) (Z : Zb mg tb) (NU : Fn P w K mg base "number_of" 1 ["token"] spNumOf) (WI : Fn P w K mg base "is_within" 2 ["thing", "low", "high"] spWithin) : FnOk P w K mg base CX0 3 f fd ["line", "rows"] spRB := by
  refine F.ok scRB (fun vs H Q E h => ?_) (fun cdv A outer s H vs Q E hr h => ?_)
  · obtain ⟨b, n, rfl, _⟩ := h
    rfl
  · obtain ⟨b, n, rfl, hb, hn, q⟩ := h
    have hr1 : Room 1 _ := hr.mono (by decide)
    refine ⟨_, pss_cons (ps_set (i := 2) scRB.nd rfl (Or.inl rfl) (pe_fn NU hr1 rfl (pa_cons (pe_slice sl_str (pv 0) (po_some (pe_op op_add (pe_callB call_len_str (by rfl) B.len PySem.boot_len (pa_cons (pe_glob (v := .str "bell") rfl Z.bell ⟨_, rfl⟩) pa_nil)) pe_int)) po_none) pa_nil)))
      (pss_cons (ps_if (pt_not (pt_val (pe_fn WI hr rfl (pa_cons (pv 2) (pa_cons pe_int (pa_cons (pv 1) pa_nil)))))) (pss_one ps_never) pss_nil)
      (pss_one (ps_ret (pv 2)))), ?_⟩
    have ld : (dg b).length ≤ 4 := (dg_len b).2 4 (by decide) (by omega)
    refine ⟨_, rfl, _, rfl, (by decide +kernel), _, _, rfl, rfl, _, rfl, bellC ++ dg b, rfl, ?_, ?_⟩
    · rw [List.length_append]
      show 5 + _ ≤ 100000
      omega
    refine ⟨b, ?_, by omega, fun H1 s1 => ?_⟩
    · rw [str_dg]
      congr 3
      show cutL (bellC ++ dg b) (some 5) none = dg b
      unfold cutL
      have e1 : HT.sIx (bellC ++ dg b).length 0 (some 5) = 5 := by
        rw [show ((5 : Int)) = ((5 : Nat) : Int) from rfl, HT.sIx_nat, List.length_append]
        show min 5 (5 + _) = 5
        omega
      rw [e1, HT.sIx_none]
      have e2 : (bellC ++ dg b).drop 5 = dg b := List.drop_left' rfl
      rw [e2]
      exact List.take_of_length_le (by rw [List.length_append]; show _ ≤ 5 + _ - 5; omega)
    · exact ⟨_, rfl, _, rfl, (b : Int), 0, (n : Int), rfl, by omega, by omega, _, rfl, iteF ⟨_, rfl, q _ s1⟩⟩
end
end L3
namespace L3
open PySem L2
def spRR (C : Addr) : Sp := fun vs H Q _ => ∃ v D line, ∃ (n : Nat) (r : Rw), vs = [v, .str line, .int n] ∧ TabV C H v D ∧ FmOk D ∧ D.width ≤ 24 ∧ n ≤ 1000 ∧ RwOk D n r ∧ Txt.split line " " = r.k.name :: shown D r ∧ line.length ≤ 100000 ∧ ∀ u H', Same H H' → RowV H' u r → Q u H'
theorem shown_at {D : Fm} {r : Rw} {i o : Nat} {f : Str × Str} (h1 : r.ops[i]? = some o) (h2 : r.k.fs[i]? = some f) : (shown D r)[i]? = some (shO D f.2 o) := by
  unfold shown
  rw [List.getElem?_map, List.getElem?_zip_eq_some (z := (o, f)) |>.mpr ⟨h1, h2⟩]
  rfl
theorem shown_len {D : Fm} {n : Nat} {r : Rw} (h : RwOk D n r) : (shown D r).length = r.k.fs.length := by
  have := h.2.length
  unfold shown
  rw [List.length_map, List.length_zip]
  omega
theorem atI0 {α : Type} {x : α} {r : List α} : atI (x :: r) 0 = some x := atI_nat (j := 0) (xs := x :: r) rfl
section
variable {P : Program} {w : World} {K : PySem.W.Frag} {mg : Str → Option Value} {base : Heap} {C : Addr} {tb : Tok}
theorem scRR : FnScope ["table", "line", "rows", "words", "kind", "sorts", "operands"] ["table", "line", "rows"] (defScope sRowRead) := ⟨rfl, rfl, rfl, by decide +kernel, rfl, by decide +kernel, by decide +kernel⟩
theorem ndNS : (["name", "sort"] : List Str).Nodup := by decide +kernel
theorem ndSW : (["sort", "word", "table"] : List Str).Nodup := by decide +kernel
set_option maxHeartbeats 8000000 in
theorem ok_rr {f : Addr} {fd : FuncData} (F : Fun K "row_read" "row_read" sRowRead f fd) (T : Tc K C) (B : Bl mg) (B4 : Bl4 mg) (FO : MthOk P w K mg base C "fields_of" 2 ["self", "kind"] (spFO C)) (OR : Fn P w K mg base "operand_read" 2 ["table", "sort", "word"] (spORd C)) (IR : Fn P w K mg base "is_row" 5 ["table", "thing", "rows"] (spIsRow C)) : FnOk P w K mg base CX0 6 f fd ["table", "line", "rows"] (spRR C) := by
  refine F.ok scRR (fun vs H Q E h => ?_) (fun cdv A outer s H vs Q E hr h => ?_)
  · obtain ⟨v, D, line, n, r, rfl, _⟩ := h
    rfl
  · obtain ⟨v, D, line, n, r, rfl, hT, hD, hw, hn, hrow, hsp, hll, q⟩ := h
    have hr2 : Room 2 _ := hr.mono (by decide)
    obtain ⟨f1, fd1, M1, F1, B1⟩ := FO
    refine ⟨_, pss_cons (ps_set (i := 3) scRR.nd rfl (Or.inl rfl) (pe_bm PySem.F.plainAttrs_str PySem.F.slot_str_split PySem.F.type_str_split mt_splitA (pv 1) (pa_cons pe_str pa_nil)))
      (pss_cons (ps_set (i := 4) scRR.nd rfl (Or.inl rfl) (pe_ix ix_list (pv 3) pe_int (fun _ _ => rfl)))
      (pss_cons (ps_if (PW.pt (pw_or (pt_cmpR op_notIn_seq (pv 4) (pe_fld (pv 0) rfl) rfl) (pw_or1 (pt_cmpR op_ne (pe_callB call_len_seq (by rfl) B.len PySem.boot_len (pa_cons (pv 3) pa_nil)) (pe_op op_add (pe_callB call_len_seq (by rfl) B.len PySem.boot_len (pa_cons (pe_methD (pv 0) (pa_cons (pv 4) pa_nil)) pa_nil)) pe_int) (nomark _))))) (pss_one (ps_ret pe_non)) pss_nil)
      (pss_cons (ps_setLC (i := 5) scRR.nd rfl rfl (N' := ["name", "sort"]) (ix := [none, none]) (sc0 := defScope sRowRead) (N := ["table", "line", "rows", "words", "kind", "sorts", "operands"]) rfl (by decide +kernel) (pi_tup (pe_methD (pv 0) (pa_cons (pv 4) pa_nil)))
        (fun C' cl s H fp => pg_tupK (K := K) (n := 2) rfl rfl (pgs_cons (pg_name (i := 0) ndNS rfl (Or.inl rfl) (.inr rfl)) (pgs_cons (pg_name (i := 1) ndNS rfl (Or.inl rfl) (.inr rfl)) pgs_nil))) (fun _ _ _ _ _ => pf_nil) (fun C' cl s H fp => pv 1))
      (pss_cons (ps_set (i := 6) scRR.nd rfl (Or.inl rfl) (pe_callTy call_tuple_of (by rfl) B.tuple boot_tuple' (pa_cons (pe_lc (N' := ["sort", "word", "table"]) (ix := [none, none, some 0]) (sc0 := defScope sRowRead) (N := ["table", "line", "rows", "words", "kind", "sorts", "operands"]) rfl (by decide +kernel) (pi_zipB false false rfl B4.zip (pa_cons (pv 5) (pa_cons (pe_slice sl_list (pv 3) (po_some pe_int) po_none) pa_nil)))
        (fun C' cl s H fp => pg_tupK (K := K) (n := 2) rfl rfl (pgs_cons (pg_name (i := 0) ndSW rfl (Or.inl rfl) (.inr rfl)) (pgs_cons (pg_name (i := 1) ndSW rfl (Or.inl rfl) (.inr rfl)) pgs_nil))) (fun _ _ _ _ _ => pf_nil) (fun C' cl s H fp => pe_fn OR hr2 rfl (pa_cons (pv 2) (pa_cons (pv 0) (pa_cons (pv 1) pa_nil))))) pa_nil)))
      (pss_one (ps_ret (pe_ifExp (pt_val (pe_fn IR hr rfl (pa_cons (pv 0) (pa_cons (pe_tup (pa_cons (pv 4) (pa_cons (pv 6) pa_nil))) (pa_cons (pv 2) pa_nil))))) (pe_tup (pa_cons (pv 4) (pa_cons (pv 6) pa_nil))) pe_non))))))), ?_⟩
    obtain ⟨hk, hops⟩ := id hrow
    have hz : r.k.name ∈ D.kinds.map Kn.name := List.mem_map.mpr ⟨_, hk, rfl⟩
    have f3 := (hD.kf _ hk).2
    have sl := shown_len hrow
    have ol := hops.length
    have sz : (1000 : Nat) ≤ sizeLine := by decide
    refine ⟨_, rfl, rfl, line, _, rfl, rfl, by decide +kernel, hll, fun lw nw => ?_⟩
    rw [hsp]
    have s1 := same_new (o := .lst ((r.k.name :: shown D r).map V.str)) nw
    have ew : (upd H lw (.lst ((r.k.name :: shown D r).map V.str))) lw = some (.lst ((r.k.name :: shown D r).map V.str)) := upd_same
    generalize upd H lw (.lst ((r.k.name :: shown D r).map V.str)) = H1 at *
    have hT1 := hT.same s1
    obtain ⟨a, dx, pp, pm, pn, pk, us, rfl, ho, hpp, hpm, hpn, hpk, hus⟩ := id hT1
    refine ⟨_, rfl, lw, _, _, _, rfl, rfl, SqL.of ew, atI0, ?_⟩
    refine ⟨_, rfl, _, rfl, a, C, dx, _, _, rfl, ho, T.cl, T.na "kinds" (by decide +kernel), rfl, pn, _, rfl, .inr (SqT.of hpn), rfl, flat_strs _, _, rfl, iteB ?_ ?_⟩
    · show (!inV (.str r.k.name) (strsV (D.kinds.map Kn.name))) = false
      rw [inV_strs, List.contains_iff_mem.mpr hz]
      rfl
    refine ⟨_, rfl, lw, _, rfl, .inl (SqL.of ew), _, rfl, a, dx, C, f1, _, fd1, 2, ["self", "kind"], _, rfl, ho, rfl, T.cl, M1, F1, hr2, B1, _, rfl, _, D, r.k, rfl, hT1, hD, hk, fun tf fu htf hfu => ?_⟩
    have fl := hfu.length
    refine ⟨tf, _, rfl, .inr (SqT.of htf), _, _, rfl, rfl, rfl, _, rfl, iteB ?_ ?_⟩
    · have : ((((r.k.name :: shown D r).map V.str).length : Nat) : Int) = (fu.length : Int) + 1 := by
        rw [List.length_map, List.length_cons, sl, fl]
        rfl
      rw [this]
      simp
    clear htf hfu fl tf fu
    refine ⟨_, rfl, a, dx, C, f1, _, fd1, 2, ["self", "kind"], _, rfl, ho, rfl, T.cl, M1, F1, hr2, B1, _, rfl, _, D, r.k, rfl, hT1, hD, hk, fun tf fu htf hfu => ?_⟩
    have fl := hfu.length
    refine ⟨tf, rfl, ⟨_, SqT.of htf⟩, ?_⟩
    refine lc_tup (K := K) (a := tf) (xs := fu) (fun i ys H' => H' = H1 ∧ ys = strsV ((r.k.fs.take i).map (·.2))) ⟨rfl, rfl⟩ (fun i ys H' hi ⟨a1, a2⟩ => by
        subst a1 a2
        refine ⟨SqT.of htf, ?_⟩
        unfold strsV
        rw [List.length_map, List.length_map, List.length_take]
        omega) ?_ ?_
    · rintro i z ys H' hz' ⟨rfl, rfl⟩
      obtain ⟨y, hy, p, rfl, hpp'⟩ := pget hfu hz'
      refine ⟨p, _, rfl, SqT.of hpp', rfl, _, _, rfl, _, _, rfl, rfl, trivial, tAny_T ?_⟩
      refine ⟨_, rfl, Nx.mk (List.getElem?_eq_some_iff.mp hz').1 ⟨rfl, ?_⟩⟩
      rw [List.take_succ, hy]
      unfold strsV
      simp
    rintro ys H' ⟨rfl, rfl⟩ ls nls
    rw [fl, List.take_length]
    have s2 := same_new (o := .lst (strsV (r.k.fs.map (·.2)))) nls
    have es : (upd H' ls (.lst (strsV (r.k.fs.map (·.2))))) ls = some (.lst (strsV (r.k.fs.map (·.2)))) := upd_same
    generalize upd H' ls (.lst (strsV (r.k.fs.map (·.2)))) = H2 at *
    have ew2 := s2 _ _ ew
    refine ⟨_, rfl, _, rfl, _, rfl, lw, _, rfl, SqL.of ew2, fun lc nlc => ?_⟩
    have ecut : cutV ((r.k.name :: shown D r).map V.str) (some 1) none = strsV (shown D r) := by
      unfold cutV
      rw [show ((1 : Int)) = ((1 : Nat) : Int) from rfl, HT.sIx_nat, HT.sIx_none]
      have : min 1 ((r.k.name :: shown D r).map V.str).length = 1 := by simp
      rw [this, List.map_cons, List.drop_succ_cons, List.drop_zero]
      exact List.take_of_length_le (by simp)
    rw [show ((1 : Int)) = 1 from rfl] at *
    rw [ecut]
    have s3 := same_new (o := .lst (strsV (shown D r))) nlc
    have ec : (upd H2 lc (.lst (strsV (shown D r)))) lc = some (.lst (strsV (shown D r))) := upd_same
    have es3 := s3 _ _ es
    generalize upd H2 lc (.lst (strsV (shown D r))) = H3 at *
    have s13 := s2.trans s3
    have hT3 := hT1.same s13
    refine ⟨ls, lc, rfl, ⟨_, SqL.of es3⟩, ⟨_, SqL.of ec⟩, ?_⟩
    refine lc_zipB (b1 := false) (b2 := false) (K := K) (l1 := ls) (l2 := lc) (xs := strsV (r.k.fs.map (·.2))) (ys := strsV (shown D r)) (by unfold strsV; rw [List.length_map, List.length_map, List.length_map, sl]) (fun i ys' H' => Same H3 H' ∧ ys' = opsV (r.ops.take i)) ⟨Same.refl _, rfl⟩ (fun i ys' H' hi ⟨s1, e1⟩ => ⟨SqL.of (s1 _ _ es3), SqL.of (s1 _ _ ec), by rw [e1]; unfold opsV; rw [List.length_map, List.length_take]; omega⟩) ?_ ?_
    · rintro i x y ys' H4 T1 hx hy nT ⟨s4, rfl⟩
      obtain ⟨fl2, hfl, rfl⟩ : ∃ g, r.k.fs[i]? = some g ∧ x = .str g.2 := by
        unfold strsV at hx
        rw [List.getElem?_map, List.getElem?_map] at hx
        cases e : r.k.fs[i]? with
        | none => rw [e] at hx; cases hx
        | some g => rw [e] at hx; exact ⟨g, rfl, (Option.some.inj hx).symm⟩
      obtain ⟨o, hoo, hb⟩ := pgetR hops hfl
      have hsh := shown_at (D := D) hoo hfl
      have ey : y = .str (shO D fl2.2 o) := by
        unfold strsV at hy
        rw [List.getElem?_map, hsh] at hy
        exact (Option.some.inj hy).symm
      subst ey
      have s5 := same_new (o := .tup [.str fl2.2, .str (shO D fl2.2 o)]) nT
      have s45 := s4.trans s5
      refine ⟨T1, _, rfl, SqT.of upd_same, rfl, _, _, rfl, _, _, rfl, rfl, ⟨rfl, trivial⟩, tAny_T ?_⟩
      refine ⟨_, rfl, _, rfl, _, rfl, _, D, fl2.2, o, n, rfl, hT3.same s45, hD, hw, hn, hb, fun H6 s6 => ?_⟩
      refine Nx.mk (List.getElem?_eq_some_iff.mp hx).1 ⟨s45.trans s6, ?_⟩
      rw [List.take_succ, hoo]
      unfold opsV
      simp
    rintro ys' H4 ⟨s4, rfl⟩ lo nlo
    have eo : opsV (r.ops.take (strsV (r.k.fs.map (·.2))).length) = opsV r.ops := by
      unfold strsV
      rw [List.length_map, List.length_map, ← ol, List.take_length]
    rw [eo]
    have s5 := same_new (o := .lst (opsV r.ops)) nlo
    have e5 : (upd H4 lo (.lst (opsV r.ops))) lo = some (.lst (opsV r.ops)) := upd_same
    generalize upd H4 lo (.lst (opsV r.ops)) = H5 at *
    refine ⟨lo, _, rfl, .inl ⟨SqL.of e5, fun t nt => ?_⟩⟩
    have s6 := same_new (o := .tup (opsV r.ops)) nt
    have e6 : (upd H5 t (.tup (opsV r.ops))) t = some (.tup (opsV r.ops)) := upd_same
    generalize upd H5 t (.tup (opsV r.ops)) = H6 at *
    have s36 := s4.trans (s5.trans s6)
    refine ⟨_, rfl, _, rfl, _, rfl, (by show 2 ≤ sizeLine; decide), fun p np => ?_⟩
    have s7 := same_new (o := .tup [.str r.k.name, .ref t]) np
    have e7 : (upd H6 p (.tup [.str r.k.name, .ref t])) p = some (.tup [.str r.k.name, .ref t]) := upd_same
    generalize upd H6 p (.tup [.str r.k.name, .ref t]) = H7 at *
    have s37 := s36.trans s7
    refine ⟨_, rfl, _, _, D, n, r, rfl, hT3.same s37, hD, hw, ⟨p, t, rfl, e7, s7 _ _ e6⟩, hrow, fun H8 s8 => ⟨_, rfl, iteT ?_⟩⟩
    refine ⟨_, rfl, _, rfl, (by show 2 ≤ sizeLine; decide), fun p2 np2 => ?_⟩
    have s9 := same_new (o := .tup [.str r.k.name, .ref t]) np2
    exact q _ _ (s1.trans (s13.trans (s37.trans (s8.trans s9)))) ⟨p2, t, rfl, upd_same, s9 _ _ (s8 _ _ (s7 _ _ e6))⟩
end
end L3
namespace L3
open PySem L2
def cp (z : Str) : List Nat := z.cps.toList
theorem S_cp (z : Str) : S (cp z) = z := (S_of z).symm
theorem cp_S (l : List Nat) : cp (S l) = l := rfl
theorem map_S_cp (l : List Str) : (l.map cp).map S = l := by
  rw [List.map_map]
  refine Eq.trans ?_ (List.map_id l)
  exact List.map_congr_left fun z _ => S_cp z
theorem str_join_jn (sep : List Nat) : ∀ ts : List (List Nat), (S sep).join (ts.map S) = S (TK.jn sep ts)
  | [] => rfl
  | [t] => rfl
  | t :: u :: r => by
    have ih := str_join_jn sep (u :: r)
    show S t ++ S sep ++ (S sep).join ((u :: r).map S) = S (t ++ (sep ++ TK.jn sep (u :: r)))
    rw [ih, S_app, S_app, List.append_assoc]
theorem jn_ne (c : Nat) (t u : List Nat) (r : List (List Nat)) : c ∈ TK.jn [c] (t :: u :: r) := by
  show c ∈ t ++ ([c] ++ TK.jn [c] (u :: r))
  simp
theorem cut_eq {c : Nat} : ∀ {a b x y : List Nat}, c ∉ a → c ∉ b → a ++ (c :: x) = b ++ (c :: y) → a = b ∧ x = y
  | [], [], x, y, _, _, h => by simpa using h
  | [], b :: bs, x, y, _, hb, h => by
    simp at h
    exact absurd (h.1 ▸ List.mem_cons_self) hb
  | a :: as, [], x, y, ha, _, h => by
    simp at h
    exact absurd (h.1 ▸ List.mem_cons_self) ha
  | a :: as, b :: bs, x, y, ha, hb, h => by
    simp at h
    obtain ⟨h1, h2⟩ := h
    obtain ⟨h3, h4⟩ := cut_eq (a := as) (b := bs) (fun z => ha (List.mem_cons_of_mem _ z)) (fun z => hb (List.mem_cons_of_mem _ z)) h2
    exact ⟨by rw [h1, h3], h4⟩
theorem jn_inj {c : Nat} : ∀ {a b : List (List Nat)}, a ≠ [] → b ≠ [] → (∀ t ∈ a, c ∉ t) → (∀ t ∈ b, c ∉ t) → TK.jn [c] a = TK.jn [c] b → a = b
  | [], _, h, _, _, _, _ => absurd rfl h
  | _, [], _, h, _, _, _ => absurd rfl h
  | [t], [u], _, _, _, _, h => by
    have : t = u := h
    rw [this]
  | [t], u :: v :: r, _, _, ha, _, h => by
    have h1 : t = TK.jn [c] (u :: v :: r) := h
    exact absurd (h1 ▸ jn_ne c u v r) (ha t List.mem_cons_self)
  | t :: s :: q, [u], _, _, _, hb, h => by
    have h1 : TK.jn [c] (t :: s :: q) = u := h
    exact absurd (h1 ▸ jn_ne c t s q) (hb u List.mem_cons_self)
  | t :: s :: q, u :: v :: r, _, _, ha, hb, h => by
    have h1 : t ++ (c :: TK.jn [c] (s :: q)) = u ++ (c :: TK.jn [c] (v :: r)) := h
    obtain ⟨h2, h3⟩ := cut_eq (ha t List.mem_cons_self) (hb u List.mem_cons_self) h1
    have := jn_inj (a := s :: q) (b := v :: r) (by simp) (by simp) (fun z hz => ha z (List.mem_cons_of_mem _ hz)) (fun z hz => hb z (List.mem_cons_of_mem _ hz)) h3
    rw [h2, this]
theorem split_jn (c : Nat) (ts : List (List Nat)) (h0 : TK.jn [c] ts ≠ []) (hf : ∀ t ∈ ts, c ∉ t) : Txt.split (S (TK.jn [c] ts)) (S [c]) = ts.map S := by
  have h1 := StrLaws.join_split (S (TK.jn [c] ts)) (S [c])
  have h2 := StrLaws.split_free (S (TK.jn [c] ts)) c
  have hS : (⟨#[c]⟩ : Str) = S [c] := rfl
  rw [hS] at h2
  generalize Txt.split (S (TK.jn [c] ts)) (S [c]) = ps at h1 h2
  have h3 := map_S_cp ps
  rw [← h3, str_join_jn] at h1
  have h4 : TK.jn [c] (ps.map cp) = TK.jn [c] ts := by
    have := congrArg cp h1
    rw [cp_S, cp_S] at this
    exact this
  have n1 : ps.map cp ≠ [] := by
    intro e
    rw [e] at h4
    exact h0 h4.symm
  have n2 : ts ≠ [] := by
    intro e
    rw [e] at h0
    exact h0 rfl
  have h5 := jn_inj n1 n2 (fun t ht => by
    obtain ⟨p, hp, rfl⟩ := List.mem_map.mp ht
    exact h2 p hp) hf h4
  rw [← h5, h3]
theorem jn_len (sep : List Nat) : ∀ ts : List (List Nat), (TK.jn sep ts).length ≤ (ts.map List.length).sum + ts.length * sep.length
  | [] => by simp [TK.jn]
  | [t] => by simp [TK.jn]
  | t :: u :: r => by
    have ih := jn_len sep (u :: r)
    show (t ++ (sep ++ TK.jn sep (u :: r))).length ≤ _
    rw [List.length_append, List.length_append]
    simp only [List.map_cons, List.sum_cons, List.length_cons] at ih ⊢
    have : (r.length + 1 + 1) * sep.length = (r.length + 1) * sep.length + sep.length := by rw [Nat.add_mul (r.length + 1) 1, Nat.one_mul]
    omega
theorem sum_le (k : Nat) : ∀ ts : List (List Nat), (∀ t ∈ ts, t.length ≤ k) → (ts.map List.length).sum ≤ ts.length * k
  | [], _ => by simp
  | t :: r, h => by
    have ih := sum_le k r (fun t ht => h t (List.mem_cons_of_mem _ ht))
    have := h t List.mem_cons_self
    simp only [List.map_cons, List.sum_cons, List.length_cons]
    have : (r.length + 1) * k = r.length * k + k := by rw [Nat.add_mul, Nat.one_mul]
    omega
theorem sp_S : (" " : Str) = S [32] := by decide +kernel
theorem nl_S : ("\n" : Str) = S [10] := by decide +kernel
end L3
namespace L2
open PySem PySem.Spec PyProof.Rows
structure FunD (K : PySem.W.Frag) (x qual : Str) (st : Stmt) (f : Addr) (fd : FuncData) : Prop where
  ex : ∃ (oc : Value) (od : Option Addr) (kV doc pm : Value) (an : Option Addr) (cdv ct : Value) (osl : Array (Option Value)) (d : Addr) (o : Obj) (n : Nat),
    fd = PySem.W.fnOf x qual (defArgs st) (defBody st) (defScope st) (.ref d) kV doc pm an cdv ct ∧ K.lookup f = some ⟨oc, od, .func fd, osl⟩ ∧ PySem.W.codeIn K cdv qual = true ∧ K.lookup d = some o ∧ o.data = .seq #[.none] n
  kp : PySem.W.keepIn K (.ref f) = true
theorem FunD.ok {P : Program} {w : World} {K : PySem.W.Frag} {mg : Str → Option Value} {base : Heap} {x qual : Str} {st : Stmt} {f : Addr} {fd : FuncData} {N ps : List Str} {k : Nat} {sp : Sp} (F : FunD K x qual st f fd) (S : FnScope N ps (defScope st)) (len : ∀ vs H Q E, sp vs H Q E → vs.length = ps.length)
    (hbody : ∀ (cdv : Value) (A : Around) (outer : List Env) (s : Shared) (H : Hp) (vs : List V) (Q : VK) (E : XK), Room k (A.deeper (envOfC qual (defScope st) s.heap.objs.size f cdv)) → sp vs H Q E →
      ∃ t, PSs (cxOf CX0 P w K mg base N qual (defScope st) f cdv A outer s H E).nox (defBody st) t ∧ t { nx := fun _ H' => Q .non H', rt := Q } (start N vs) H) : FnOk P w K mg base CX0 (k + 1) f fd ps sp := by
  obtain ⟨oc, od, kV, doc, pm, an, cdv, ct, osl, d, o, n, rfl, lk, hcd, _⟩ := F.ex
  refine fn_of lk hcd S len fun A outer s H vs Q E hr hsp => ?_
  obtain ⟨t, h, q⟩ := hbody cdv A outer s H vs Q E hr hsp
  exact ⟨t, h.nox, q⟩
end L2
namespace L3
open PySem L2
abbrev sPInit : Stmt := inClass (top 38) 0
def prgF (t : Addr) (vb : V) : List (Str × V) := [("rows", .ref t), ("bell", vb)]
structure Pc (K : PySem.W.Frag) (C : Addr) : Prop where
  cl : Cls K C
  n1 : NoAttr K C "rows"
  n2 : NoAttr K C "bell"
def blV : Option Nat → V
  | none => .non
  | some n => .int (n : Int)
def ProgV (Cp : Addr) (H : Hp) (v : V) (rs : List Rw) (bl : Option Nat) : Prop := ∃ a dx t us, v = .ref a ∧ H a = some (.ins Cp dx (prgF t (blV bl))) ∧ H t = some (.tup us) ∧ Paired (RowV H) us rs
theorem ProgV.same {Cp : Addr} {H H' : Hp} {v : V} {rs : List Rw} {bl : Option Nat} (h : ProgV Cp H v rs bl) (s : Same H H') : ProgV Cp H' v rs bl := let ⟨a, dx, t, us, b, c, d, e⟩ := h; ⟨a, dx, t, us, b, s _ _ c, s _ _ d, pmap (fun _ _ h => RowV.kt (kt_same s) h) e⟩
def spPInit (Cp : Addr) : Sp := fun vs H Q _ => ∃ x dx l us vb, vs = [.ref x, .ref l, vb] ∧ H x = some (.ins Cp dx []) ∧ H l = some (.lst us) ∧
  ∀ t H', H' x = some (.ins Cp dx (prgF t vb)) → H t = none → H' t = some (.tup us) → ButO x H H' → Q .non H'
def spPO (C Cp : Addr) : Sp := fun vs H Q _ => ∃ v l us D, ∃ (rs : List Rw) (bl : Option Nat), vs = [v, .ref l, blV bl] ∧ TabV C H v D ∧ FmOk D ∧ D.width ≤ 24 ∧ H l = some (.lst us) ∧ Paired (RowV H) us rs ∧ (∀ r ∈ rs, RwOk D rs.length r) ∧ rs.length ≤ 40 ∧ (∀ b, bl = some b → b ≤ rs.length) ∧
  ∀ v' H', Same H H' → ProgV Cp H' v' rs bl → Q v' H'
structure Zr (mg : Str → Option Value) (tm : Tok) : Prop where
  mr : mg "MOST_ROWS" = some (.int 40 tm)
section
variable {P : Program} {w : World} {K : PySem.W.Frag} {mg : Str → Option Value} {base : Heap} {C Cp : Addr} {tb tm : Tok}
theorem scPInit : FnScope ["self", "rows", "bell"] ["self", "rows", "bell"] (defScope sPInit) := ⟨rfl, rfl, rfl, by decide +kernel, rfl, by decide +kernel, by decide +kernel⟩
theorem ok_pInit {f : Addr} {fd : FuncData} (F : Fun K "__init__" "Program.__init__" sPInit f fd) (T : Pc K Cp) (B : Bl mg) : FnOk P w K mg base CX0 1 f fd ["self", "rows", "bell"] (spPInit Cp) := by
  refine F.ok scPInit (fun vs H Q E h => ?_) (fun cdv A outer s H vs Q E hr h => ?_)
  · obtain ⟨x, dx, l, us, vb, rfl, _⟩ := h
    rfl
  · obtain ⟨x, dx, l, us, vb, rfl, hx, hl, q⟩ := h
    refine ⟨_, pss_cons (ps_fld (pv 0) (pe_callTy call_tuple_of (by rfl) B.tuple boot_tuple' (pa_cons (pv 1) pa_nil)) rfl) (pss_one (ps_fld (pv 0) (pv 2) rfl)), ?_⟩
    refine ⟨_, rfl, l, us, rfl, .inl ⟨SqL.of hl, fun t nt => ?_⟩⟩
    have s1 := same_new (o := .tup us) nt
    have e1 : (upd H t (.tup us)) t = some (.tup us) := upd_same
    have x1 := s1 _ _ hx
    have tx : t ≠ x := by
      rintro rfl
      rw [nt] at hx
      cases hx
    generalize upd H t (.tup us) = H1 at *
    refine ⟨_, rfl, x, Cp, dx, _, rfl, x1, T.cl, T.n1, (by show 0 < 1000; decide), ?_⟩
    refine ⟨_, rfl, _, rfl, x, Cp, dx, _, rfl, upd_same, T.cl, T.n2, (by show 1 < 1000; decide), ?_⟩
    refine q t _ ?_ nt ?_ ?_
    · rw [upd_same]
      rfl
    · rw [upd_ne tx, upd_ne tx]
      exact e1
    · intro b o e nb
      rw [upd_ne nb, upd_ne nb]
      exact s1 _ _ e
theorem scPO : FnScope ["table", "rows", "bell", "at", "row"] ["table", "rows", "bell"] (defScope sProgramOf) := ⟨rfl, rfl, rfl, by decide +kernel, rfl, by decide +kernel, by decide +kernel⟩
set_option maxHeartbeats 4000000 in
theorem ok_po {f fi : Addr} {fd fdi : FuncData} (F : FunD K "program_of" "program_of" sProgramOf f fd) (B : Bl mg) (B3 : Bl3 mg) (Z : Zr mg tm) (MK : Mk K Cp fi) (mgP : mg "Program" = some (.ref Cp)) (IN : FnOk P w K mg base CX0 1 fi fdi ["self", "rows", "bell"] (spPInit Cp)) (bI : Binds K fdi ["self", "rows", "bell"] [])
    (IR : Fn P w K mg base "is_row" 5 ["table", "thing", "rows"] (spIsRow C)) (WI : Fn P w K mg base "is_within" 2 ["thing", "low", "high"] spWithin) : FnOk P w K mg base CX0 6 f fd ["table", "rows", "bell"] (spPO C Cp) := by
  refine F.ok scPO (fun vs H Q E h => ?_) (fun cdv A outer s H vs Q E hr h => ?_)
  · obtain ⟨v, l, us, D, rs, bl, rfl, _⟩ := h
    rfl
  · obtain ⟨v, l, us, D, rs, bl, rfl, hT, hD, hw, hl, hus, hrs, h40, hbl, q⟩ := h
    have hr2 : Room 2 _ := hr.mono (by decide)
    refine ⟨_, pss_cons (ps_if (pt_not (pt_val (pe_callB isi_tysL (by rfl) B.isinstance boot_isi (pa_cons (pv 1) (pa_cons (pe_tup (pa_cons (pe_ty (by rfl) B.list boot_list') (pa_cons (pe_ty (by rfl) B.tuple boot_tuple') pa_nil))) pa_nil))))) (pss_one ps_never) pss_nil)
      (pss_cut (fun σ H' => ∃ v3 v4 : Option V, σ = [some v, some (.ref l), some (blV bl), v3, v4] ∧ Same H H') (ps_for PassesOwn.never rfl (pi_enum rfl B3.enumerate (pa_cons (pv 1) pa_nil)) (pg_tup rfl (pgs_cons (pg_name (i := 3) scPO.nd rfl (Or.inl rfl)) (pgs_cons (pg_name (i := 4) scPO.nd rfl (Or.inl rfl)) pgs_nil)))
        (pss_one (ps_if (PW.pt (pw_or (pt_cmpR op_eq (pv 3) (pe_glob (v := .int 40) rfl Z.mr ⟨_, rfl⟩) (nomark _)) (pw_or1 (pt_not (pt_val (pe_fn IR hr rfl (pa_cons (pv 0) (pa_cons (pv 4) (pa_cons (pe_callB call_len_seq (by rfl) B.len PySem.boot_len (pa_cons (pv 1) pa_nil)) pa_nil))))))))) (pss_one ps_never) pss_nil)))
      (pss_cons (ps_if (PW.pt (pw_and (pt_cmpR op_notN (pv 2) pe_non (nomark _)) (pw_and1 (pt_not (pt_val (pe_fn WI hr2 rfl (pa_cons (pv 2) (pa_cons pe_int (pa_cons (pe_callB call_len_seq (by rfl) B.len PySem.boot_len (pa_cons (pv 1) pa_nil)) pa_nil))))))))) (pss_one ps_never) pss_nil)
      (pss_one (ps_ret (pe_make MK IN hr2 rfl mgP bI .nil pass0 (pa_cons (pv 1) (pa_cons (pv 2) pa_nil))))))), ?_⟩
    have lr := hus.length
    refine ⟨_, rfl, (by show 2 ≤ sizeLine; decide), fun tp ntp => ?_⟩
    have s1 := same_new (o := .tup [.ty "list", .ty "tuple"]) ntp
    refine ⟨l, us, tp, ["list", "tuple"], true, rfl, s1 _ _ hl, upd_same, rfl, _, rfl, iteF ?_⟩
    generalize upd H tp (.tup [V.ty "list", .ty "tuple"]) = H1 at *
    refine ⟨?_, ?_⟩
    · rintro σ H2 ⟨v3, v4, rfl, s2⟩
      have fin : ∀ H3, Same H H3 → (H3 l = some (.lst us)) → ∀ x dx, H3 x = none → H3 dx = none → dx ≠ x → spPInit Cp [.ref x, .ref l, blV bl] (upd (upd H3 dx (.own x)) x (.ins Cp dx [])) (fun v H2 => v = .non ∧ Q (.ref x) H2) E0 := by
        intro H3 s3 hl3 x dx nx ndx ne
        have sx := same_mut (o := .ins Cp dx []) nx (same_new (o := .own x) ndx)
        refine ⟨x, dx, l, us, _, rfl, upd_same, sx _ _ hl3, fun t H4 e4 nt et b4 => ⟨rfl, ?_⟩⟩
        have s34 : Same H3 H4 := same_but nx sx b4
        have s04 := s3.trans s34
        exact q _ _ s04 ⟨x, dx, t, us, rfl, e4, et, pmap (fun _ _ h => RowV.kt (kt_same s04) h) hus⟩
      cases bl with
      | none =>
        refine ⟨_, rfl, rfl, _, rfl, iteF ?_⟩
        exact ⟨_, rfl, _, rfl, fin H2 s2 (s2 _ _ hl)⟩
      | some b =>
        have hb := hbl b rfl
        refine ⟨_, rfl, rfl, _, rfl, iteT ?_⟩
        refine ⟨_, rfl, _, rfl, l, us, rfl, .inl (SqL.of (s2 _ _ hl)), (b : Int), 0, _, rfl, by omega, by rw [lr]; omega, _, rfl, iteF ?_⟩
        exact ⟨_, rfl, _, rfl, fin H2 s2 (s2 _ _ hl)⟩
    · refine ⟨_, rfl, l, rfl, ⟨_, SqL.of (s1 _ _ hl)⟩, ?_⟩
      refine for_enum (K := K) (l := l) (xs := us) (fun i σ H' => ∃ v3 v4 : Option V, σ = [some v, some (.ref l), some (blV bl), v3, v4] ∧ Same H H') ⟨_, _, rfl, s1⟩ (fun i σ H' _ ⟨_, _, _, s'⟩ => SqL.of (s' _ _ hl)) ?_ ?_
      · rintro i x σ H2 T1 hx nT ⟨v3, v4, rfl, s2⟩
        obtain ⟨r, hri, hR⟩ := pget hus hx
        have hlt : i < rs.length := (List.getElem?_eq_some_iff.mp hri).1
        have s3 := same_new (o := .tup [.int (i : Int), x]) nT
        have s23 := s2.trans s3
        refine ⟨T1, _, rfl, SqT.of upd_same, rfl, _, _, rfl, _, _, rfl, rfl, ?_⟩
        refine ⟨_, rfl, rfl, _, rfl, iteB (decide_eq_false fun e => ?_) ?_⟩
        · have := V.int.inj e
          omega
        refine ⟨_, rfl, _, rfl, _, rfl, l, us, rfl, .inl (SqL.of (s23 _ _ hl)), v, x, D, us.length, r, rfl, hT.same s23, hD, hw, RowV.kt (kt_same s23) hR, ?_, fun H4 s4 => ⟨_, rfl, iteF ?_⟩⟩
        · rw [lr]
          exact hrs r (List.mem_of_getElem? hri)
        · exact ⟨_, _, rfl, s23.trans s4⟩
      · rintro σ H2 ⟨v3, v4, rfl, s2⟩
        exact ⟨_, _, rfl, s2⟩
end
end L3
namespace L3
open PySem L2
structure NmS (D : Fm) : Prop where
  pl : ∀ z ∈ D.places, NameS z
  mrk : ∀ z ∈ D.marks, NameS z
  kn : ∀ x ∈ D.kinds, NameS x.name
def rowL (D : Fm) (r : Rw) : List (List Nat) := (r.k.name :: shown D r).map cp
def rowC (D : Fm) (r : Rw) : List Nat := TK.jn [32] (rowL D r)
def bellL : Option Nat → List (List Nat)
  | none => []
  | some b => [bellC ++ dg b]
def linesC (D : Fm) (rs : List Rw) (bl : Option Nat) : List (List Nat) := bellL bl ++ rs.map (rowC D)
def progC (D : Fm) (rs : List Rw) (bl : Option Nat) : List Nat := TK.jn [10] (linesC D rs bl)
def txV (ts : List (List Nat)) : List V := ts.map fun t => V.str (S t)
theorem NameS.len {z : Str} (h : NameS z) : (cp z).length ≤ 8 := by
  have := h.2.2.1
  have e : z.length = (cp z).length := by unfold cp; simp [Str.length]
  omega
theorem NameS.pos {z : Str} (h : NameS z) : 1 ≤ (cp z).length := by
  have := h.2.1
  have e : z.length = (cp z).length := by unfold cp; simp [Str.length]
  omega
theorem bell_eq (b : Nat) : (Str.empty ++ ("bell" : Str) ++ (" " : Str) ++ (toString (b : Int) : Str)) = S (bellC ++ dg b) := by
  have e : (Str.empty ++ ("bell" : Str) ++ (" " : Str)) = S bellC := by decide +kernel
  rw [e, str_dg, S_app]
theorem getD_mem {l : List Str} {i : Nat} (h : i < l.length) : l.getD i "" ∈ l := List.mem_of_getElem? (getD_at' h)
theorem shO_codes {D : Fm} (hN : NmS D) {n i : Nat} {st : Str} (hw : D.width ≤ 24) (hn : n ≤ 1000) (h : i < bnd D n st) : (cp (shO D st i)).length ≤ 8 ∧ ∀ c ∈ cp (shO D st i), (97 ≤ c ∧ c ≤ 122) ∨ (48 ≤ c ∧ c ≤ 57) := by
  have h0 := h
  unfold shO
  by_cases h1 : st = "place"
  · subst h1
    rw [if_pos rfl]
    unfold bnd at h
    rw [if_pos rfl] at h
    have := hN.pl _ (getD_mem h)
    exact ⟨this.len, fun c hc => .inl (this.2.2.2 c hc)⟩
  rw [if_neg h1]
  by_cases h2 : st = "mark"
  · subst h2
    rw [if_pos rfl]
    unfold bnd at h
    rw [if_neg h1, if_pos rfl] at h
    have := hN.mrk _ (getD_mem h)
    exact ⟨this.len, fun c hc => .inl (this.2.2.2 c hc)⟩
  rw [if_neg h2, str_dg, cp_S]
  have := bnd_lt hw hn h0 h1 h2
  exact ⟨(dg_len i).2 8 (by decide) (by omega), fun c hc => .inr (dg_all i c hc)⟩
theorem mem_shown {D : Fm} {n : Nat} {r : Rw} (h : RwOk D n r) {z : Str} (hz : z ∈ shown D r) : ∃ st i, z = shO D st i ∧ i < bnd D n st := by
  obtain ⟨i, hi⟩ := at_mem hz
  have hl := (List.getElem?_eq_some_iff.mp hi).1
  have e1 := shown_len h
  have e2 := h.2.length
  have ho : i < r.ops.length := by omega
  have hf : i < r.k.fs.length := by omega
  have h1 := List.getElem?_eq_getElem ho
  have h2 := List.getElem?_eq_getElem hf
  have h3 := shown_at (D := D) h1 h2
  rw [hi] at h3
  obtain ⟨f, hf2, hb⟩ := pget h.2 h1
  rw [h2] at hf2
  cases hf2
  exact ⟨_, _, Option.some.inj h3, hb⟩
theorem rowL_ok {D : Fm} (hN : NmS D) {n : Nat} {r : Rw} (hw : D.width ≤ 24) (hn : n ≤ 1000) (h : RwOk D n r) : ∀ t ∈ rowL D r, t.length ≤ 8 ∧ ∀ c ∈ t, (97 ≤ c ∧ c ≤ 122) ∨ (48 ≤ c ∧ c ≤ 57) := by
  intro t ht
  obtain ⟨z, hz, rfl⟩ := List.mem_map.mp ht
  rcases List.mem_cons.mp hz with rfl | hz
  · have := hN.kn _ h.1
    exact ⟨this.len, fun c hc => .inl (this.2.2.2 c hc)⟩
  · obtain ⟨st, i, rfl, hb⟩ := mem_shown h hz
    exact shO_codes hN hw hn hb
theorem rowL_len {D : Fm} (hD : FmOk D) {n : Nat} {r : Rw} (h : RwOk D n r) : (rowL D r).length ≤ 4 := by
  unfold rowL
  rw [List.length_map, List.length_cons, shown_len h]
  have := (hD.kf _ h.1).2
  omega
theorem rowC_len {D : Fm} (hD : FmOk D) (hN : NmS D) {n : Nat} {r : Rw} (hw : D.width ≤ 24) (hn : n ≤ 1000) (h : RwOk D n r) : (rowC D r).length ≤ 36 := by
  have h1 := jn_len [32] (rowL D r)
  have h2 := sum_le 8 (rowL D r) fun t ht => (rowL_ok hN hw hn h t ht).1
  have h3 := rowL_len hD h
  unfold rowC
  simp only [List.length_cons, List.length_nil] at h1
  omega
theorem lines_len {D : Fm} (hD : FmOk D) (hN : NmS D) {rs : List Rw} {bl : Option Nat} (hw : D.width ≤ 24) (h : ∀ r ∈ rs, RwOk D rs.length r) (h40 : rs.length ≤ 40) (hb : ∀ b, bl = some b → b ≤ 40) : (∀ t ∈ linesC D rs bl, t.length ≤ 36) ∧ (linesC D rs bl).length ≤ 41 := by
  unfold linesC
  have e : (bellL bl).length ≤ 1 := by cases bl <;> simp [bellL]
  refine ⟨fun t ht => ?_, by rw [List.length_append, List.length_map]; omega⟩
  rcases List.mem_append.mp ht with ht | ht
  · cases bl with
    | none => simp [bellL] at ht
    | some b =>
      have : t = bellC ++ dg b := by simpa [bellL] using ht
      rw [this, List.length_append]
      have := (dg_len b).2 2 (by decide) (by have := hb b rfl; omega)
      show 5 + _ ≤ 36
      omega
  · obtain ⟨r, hr, rfl⟩ := List.mem_map.mp ht
    exact rowC_len hD hN hw (by omega) (h r hr)
theorem prog_sum {D : Fm} (hD : FmOk D) (hN : NmS D) {rs : List Rw} {bl : Option Nat} (hw : D.width ≤ 24) (h : ∀ r ∈ rs, RwOk D rs.length r) (h40 : rs.length ≤ 40) (hb : ∀ b, bl = some b → b ≤ 40) : ((linesC D rs bl).map List.length).sum + (linesC D rs bl).length * 1 ≤ 2000 := by
  obtain ⟨h1, h2⟩ := lines_len hD hN hw h h40 hb
  have := sum_le 36 _ h1
  omega
def spShow (C Cp : Addr) : Sp := fun vs H Q _ => ∃ v pv D, ∃ (rs : List Rw) (bl : Option Nat), vs = [v, pv] ∧ TabV C H v D ∧ FmOk D ∧ NmS D ∧ D.width ≤ 24 ∧ ProgV Cp H pv rs bl ∧ (∀ r ∈ rs, RwOk D rs.length r) ∧ rs.length ≤ 40 ∧ (∀ b, bl = some b → b ≤ rs.length) ∧
  ∀ H', Same H H' → Q (.str (S (progC D rs bl))) H'
section
variable {P : Program} {w : World} {K : PySem.W.Frag} {mg : Str → Option Value} {base : Heap} {C Cp : Addr} {tb tm : Tok}
theorem scShow : FnScope ["table", "program", "lines", "kind", "operands", "sorts", "shown"] ["table", "program"] (defScope sShowProgram) := ⟨rfl, rfl, rfl, by decide +kernel, rfl, by decide +kernel, by decide +kernel⟩
theorem ndSN : (["sort", "number", "table"] : List Str).Nodup := by decide +kernel
set_option maxHeartbeats 8000000 in
theorem ok_show {f : Addr} {fd : FuncData} (F : Fun K "show_program" "show_program" sShowProgram f fd) (T : Tc K C) (Tp : Pc K Cp) (B : Bl mg) (B4 : Bl4 mg) (Z : Zb mg tb) (FO : MthOk P w K mg base C "fields_of" 2 ["self", "kind"] (spFO C)) (OS : Fn P w K mg base "operand_shown" 1 ["table", "sort", "number"] (spOS C)) : FnOk P w K mg base CX0 3 f fd ["table", "program"] (spShow C Cp) := by
  refine F.ok scShow (fun vs H Q E h => ?_) (fun cdv A outer s H vs Q E hr h => ?_)
  · obtain ⟨v, pv, D, rs, bl, rfl, _⟩ := h
    rfl
  · obtain ⟨v, pv1, D, rs, bl, rfl, hT, hD, hN, hw, hP, hrs, h40, hbl, q⟩ := h
    have hr1 : Room 1 _ := hr.mono (by decide)
    have sz : (100000 : Nat) ≤ sizeLine := by decide
    obtain ⟨f1, fd1, M1, F1, B1⟩ := FO
    obtain ⟨ap, dp, tr, us, rfl, hap, htr, hus⟩ := id hP
    have lr := hus.length
    have hb40 : ∀ b, bl = some b → b ≤ 40 := fun b e => Nat.le_trans (hbl b e) h40
    refine ⟨_, pss_cut (fun σ H' => ∃ ll, σ = [some v, some (.ref ap), some (.ref ll), none, none, none, none] ∧ H ll = none ∧ Same H H' ∧ H' ll = some (.lst (txV (bellL bl)))) (ps_set (i := 2) scShow.nd rfl (Or.inl rfl) (pe_ifExp (pt_cmpR op_isN (pe_fld (pv 1) rfl) pe_non (nomark _)) (pe_lst pa_nil) (pe_lst (pa_cons (pe_fstr (pj_val (pe_glob (v := .str "bell") rfl Z.bell ⟨_, rfl⟩) (pj_lit (pj_val (pe_fld (pv 1) rfl) pj_nil)))) pa_nil))))
      (pss_cons (ps_for PassesOwn.never rfl (pi_tup (pe_fld (pv 1) rfl)) (pg_tup rfl (pgs_cons (pg_name (i := 3) scShow.nd rfl (Or.inl rfl)) (pgs_cons (pg_name (i := 4) scShow.nd rfl (Or.inl rfl)) pgs_nil)))
        (pss_cons (ps_setLC (i := 5) scShow.nd rfl rfl (N' := ["name", "sort"]) (ix := [none, none]) (sc0 := defScope sShowProgram) (N := ["table", "program", "lines", "kind", "operands", "sorts", "shown"]) rfl (by decide +kernel) (pi_tup (pe_methD (pv 0) (pa_cons (pv 3) pa_nil)))
          (fun C' cl s H fp => pg_tupK (K := K) (n := 2) rfl rfl (pgs_cons (pg_name (i := 0) ndNS rfl (Or.inl rfl) (.inr rfl)) (pgs_cons (pg_name (i := 1) ndNS rfl (Or.inl rfl) (.inr rfl)) pgs_nil))) (fun _ _ _ _ _ => pf_nil) (fun C' cl s H fp => pv 1))
        (pss_cons (ps_setLC (i := 6) scShow.nd rfl rfl (N' := ["sort", "number", "table"]) (ix := [none, none, some 0]) (sc0 := defScope sShowProgram) (N := ["table", "program", "lines", "kind", "operands", "sorts", "shown"]) rfl (by decide +kernel) (pi_zipB false true rfl B4.zip (pa_cons (pv 5) (pa_cons (pv 4) pa_nil)))
          (fun C' cl s H fp => pg_tupK (K := K) (n := 2) rfl rfl (pgs_cons (pg_name (i := 0) ndSN rfl (Or.inl rfl) (.inr rfl)) (pgs_cons (pg_name (i := 1) ndSN rfl (Or.inl rfl) (.inr rfl)) pgs_nil))) (fun _ _ _ _ _ => pf_nil) (fun C' cl s H fp => pe_fn OS hr1 rfl (pa_cons (pv 2) (pa_cons (pv 0) (pa_cons (pv 1) pa_nil)))))
        (pss_one (ps_expr (pe_bm PySem.F.plainAttrs_list PySem.F.slot_list_append PySem.F.type_list_append mt_append (pv 2) (pa_cons (pe_bm PySem.F.plainAttrs_str PySem.F.slot_str_join PySem.F.type_str_join mt_join pe_str (pa_cons (pe_op op_cat (pe_lst (pa_cons (pv 3) pa_nil)) (pv 6)) pa_nil)) pa_nil)))))))
      (pss_one (ps_ret (pe_bm PySem.F.plainAttrs_str PySem.F.slot_str_join PySem.F.type_str_join mt_join pe_str (pa_cons (pv 2) pa_nil))))), ?_⟩
    refine ⟨?_, ?_⟩
    · rintro σ H1 ⟨ll, rfl, nll, s1, ell⟩
      have hT1 := hT.same s1
      refine ⟨_, rfl, ap, Cp, dp, _, _, rfl, s1 _ _ hap, Tp.cl, Tp.n1, rfl, tr, rfl, ⟨_, SqT.of (s1 _ _ htr)⟩, ?_⟩
      refine for_tup (K := K) (a := tr) (xs := us) (fun i σ H' => ∃ v3 v4 v5 v6 : Option V, σ = [some v, some (.ref ap), some (.ref ll), v3, v4, v5, v6] ∧ Same H H' ∧ H' ll = some (.lst (txV (linesC D (rs.take i) bl)))) ⟨_, _, _, _, rfl, s1, by rw [ell]; unfold linesC; simp⟩ (fun i σ H' _ ⟨_, _, _, _, _, s', _⟩ => SqT.of (s' _ _ htr)) ?_ ?_
      · rintro i x σ H2 hx ⟨v3, v4, v5, v6, rfl, s2, el2⟩
        obtain ⟨r, hri, hR⟩ := pget hus hx
        have hRk := hrs r (List.mem_of_getElem? hri)
        obtain ⟨hk, hops⟩ := id hRk
        obtain ⟨p, t, rfl, hp, ht⟩ := RowV.kt (kt_same s2) hR
        have hT2 := hT.same s2
        obtain ⟨a, dx, pp, pm, pn, pk, ku, rfl, ho, hpp, hpm, hpn, hpk, hku⟩ := id hT2
        have f3 := (hD.kf _ hk).2
        have sl := shown_len hRk
        have ol := hops.length
        refine ⟨p, _, rfl, SqT.of hp, rfl, _, _, rfl, _, _, rfl, rfl, ?_⟩
        refine ⟨_, rfl, a, dx, C, f1, _, fd1, 2, ["self", "kind"], _, rfl, ho, rfl, T.cl, M1, F1, hr, B1, _, rfl, _, D, r.k, rfl, hT2, hD, hk, fun tf fu htf hfu => ?_⟩
        have fl := hfu.length
        refine ⟨tf, rfl, ⟨_, SqT.of htf⟩, ?_⟩
        refine lc_tup (K := K) (a := tf) (xs := fu) (fun i ys H' => H' = H2 ∧ ys = strsV ((r.k.fs.take i).map (·.2))) ⟨rfl, rfl⟩ (fun i ys H' hi ⟨a1, a2⟩ => by
            subst a1 a2
            refine ⟨SqT.of htf, ?_⟩
            unfold strsV
            rw [List.length_map, List.length_map, List.length_take]
            omega) ?_ ?_
        · rintro i z ys H' hz' ⟨rfl, rfl⟩
          obtain ⟨y, hy, p', rfl, hpp'⟩ := pget hfu hz'
          refine ⟨p', _, rfl, SqT.of hpp', rfl, _, _, rfl, _, _, rfl, rfl, trivial, tAny_T ?_⟩
          refine ⟨_, rfl, Nx.mk (List.getElem?_eq_some_iff.mp hz').1 ⟨rfl, ?_⟩⟩
          rw [List.take_succ, hy]
          unfold strsV
          simp
        rintro ys H' ⟨rfl, rfl⟩ ls nls
        rw [fl, List.take_length]
        have s3 := same_new (o := .lst (strsV (r.k.fs.map (·.2)))) nls
        have es : (upd H' ls (.lst (strsV (r.k.fs.map (·.2))))) ls = some (.lst (strsV (r.k.fs.map (·.2)))) := upd_same
        generalize upd H' ls (.lst (strsV (r.k.fs.map (·.2)))) = H3 at *
        have hT3 := hT2.same s3
        refine ⟨_, rfl, _, rfl, ls, t, rfl, ⟨_, SqL.of es⟩, ⟨_, SqT.of (s3 _ _ ht)⟩, ?_⟩
        refine lc_zipB (b1 := false) (b2 := true) (K := K) (l1 := ls) (l2 := t) (xs := strsV (r.k.fs.map (·.2))) (ys := opsV r.ops) (by unfold strsV opsV; rw [List.length_map, List.length_map, List.length_map, ol]) (fun i ys' H' => Same H3 H' ∧ ys' = strsV ((shown D r).take i)) ⟨Same.refl _, rfl⟩ (fun i ys' H' hi ⟨s1, e1⟩ => ⟨SqL.of (s1 _ _ es), SqT.of (s1 _ _ (s3 _ _ ht)), by rw [e1]; unfold strsV; rw [List.length_map, List.length_take]; omega⟩) ?_ ?_
        · rintro i x y ys' H4 T1 hx hy nT ⟨s4, rfl⟩
          obtain ⟨fl2, hfl, rfl⟩ : ∃ g, r.k.fs[i]? = some g ∧ x = .str g.2 := by
            unfold strsV at hx
            rw [List.getElem?_map, List.getElem?_map] at hx
            cases e : r.k.fs[i]? with
            | none => rw [e] at hx; cases hx
            | some g => rw [e] at hx; exact ⟨g, rfl, (Option.some.inj hx).symm⟩
          obtain ⟨o, hoo, rfl⟩ := ops_at hy
          obtain ⟨fl3, hfl3, hb⟩ := pget hops hoo
          have e2 : fl3 = fl2 := by
            rw [hfl] at hfl3
            exact (Option.some.inj hfl3).symm
          subst e2
          have hsh := shown_at (D := D) hoo hfl
          have s5 := same_new (o := .tup [.str fl3.2, .int (o : Int)]) nT
          have s45 := s4.trans s5
          refine ⟨T1, _, rfl, SqT.of upd_same, rfl, _, _, rfl, _, _, rfl, rfl, ⟨rfl, trivial⟩, tAny_T ?_⟩
          refine ⟨_, rfl, _, rfl, _, rfl, _, D, fl3.2, o, rs.length, rfl, hT3.same s45, hw, by omega, hb, ?_⟩
          refine Nx.mk (List.getElem?_eq_some_iff.mp hx).1 ⟨s45, ?_⟩
          rw [List.take_succ, hsh]
          unfold strsV
          simp
        rintro ys' H4 ⟨s4, rfl⟩ lo nlo
        have eo : strsV ((shown D r).take (strsV (r.k.fs.map (·.2))).length) = strsV (shown D r) := by
          have : (strsV (r.k.fs.map (·.2))).length = (shown D r).length := by unfold strsV; rw [List.length_map, List.length_map, sl]
          rw [this, List.take_length]
        rw [eo]
        have s5 := same_new (o := .lst (strsV (shown D r))) nlo
        have e5 : (upd H4 lo (.lst (strsV (shown D r)))) lo = some (.lst (strsV (shown D r))) := upd_same
        generalize upd H4 lo (.lst (strsV (shown D r))) = H5 at *
        have s25 := (s3.trans s4).trans s5
        refine ⟨_, rfl, .inl ⟨rfl, _, SqL.of (s25 _ _ el2)⟩, ?_⟩
        refine ⟨rfl, _, rfl, (by show 1 ≤ sizeLine; decide), fun lk nlk => ?_⟩
        have s6 := same_new (o := .lst [.str r.k.name]) nlk
        have e6 : (upd H5 lk (.lst [.str r.k.name])) lk = some (.lst [.str r.k.name]) := upd_same
        generalize upd H5 lk (.lst [V.str r.k.name]) = H6 at *
        refine ⟨_, rfl, lk, lo, _, _, rfl, rfl, e6, s6 _ _ e5, ?_, fun lc nlc => ?_⟩
        · unfold strsV
          simp only [List.length_cons, List.length_nil, List.length_map]
          omega
        have ec : [V.str r.k.name] ++ strsV (shown D r) = (rowL D r).map fun t => V.str (S t) := by
          unfold rowL strsV
          rw [List.map_map]
          show (r.k.name :: shown D r).map V.str = _
          refine List.map_congr_left fun z _ => ?_
          show V.str z = V.str (S (cp z))
          rw [S_cp]
        rw [ec]
        have s7 := same_new (o := .lst ((rowL D r).map fun t => V.str (S t))) nlc
        have e7 : (upd H6 lc (.lst ((rowL D r).map fun t => V.str (S t)))) lc = some (.lst ((rowL D r).map fun t => V.str (S t))) := upd_same
        generalize upd H6 lc (.lst ((rowL D r).map fun t => V.str (S t))) = H7 at *
        have s27 := (s25.trans s6).trans s7
        have hrl := rowL_ok hN hw (by omega : rs.length ≤ 1000) hRk
        refine ⟨[32], lc, rowL D r, congrArg V.str sp_S, rfl, SqL.of e7, ?_, ?_⟩
        · have h1 := sum_le 8 (rowL D r) fun t ht => (hrl t ht).1
          have h2 := rowL_len hD hRk
          simp only [List.length_cons, List.length_nil]
          omega
        have el7 := s27 _ _ el2
        refine ⟨ll, _, _, rfl, rfl, el7, ?_, ?_⟩
        · unfold txV
          rw [List.length_map]
          unfold linesC
          rw [List.length_append, List.length_map, List.length_take]
          have : (bellL bl).length ≤ 1 := by cases bl <;> simp [bellL]
          omega
        refine ⟨_, _, _, _, rfl, same_mut nll (s2.trans s27), ?_⟩
        rw [upd_same]
        congr 2
        unfold linesC txV
        rw [List.take_succ, hri]
        simp
        rfl
      · rintro σ H2 ⟨v3, v4, v5, v6, rfl, s2, el2⟩
        rw [lr, List.take_length] at el2
        refine ⟨rfl, _, rfl, [10], ll, linesC D rs bl, congrArg V.str nl_S, rfl, SqL.of el2, ?_, q _ s2⟩
        have := prog_sum hD hN hw hrs h40 hb40
        simp only [List.length_cons, List.length_nil]
        omega
    · refine ⟨_, rfl, ap, Cp, dp, _, _, rfl, hap, Tp.cl, Tp.n2, rfl, rfl, _, rfl, ?_⟩
      cases bl with
      | none =>
        refine iteT ⟨(by show 0 ≤ sizeLine; decide), fun ll nll => ?_⟩
        exact ⟨ll, rfl, nll, same_new nll, upd_same⟩
      | some b =>
        have hb := hb40 b rfl
        refine iteF ?_
        refine .inr ⟨_, rfl, by decide +kernel, by decide +kernel, by decide +kernel, _, rfl, ap, Cp, dp, _, _, rfl, hap, Tp.cl, Tp.n2, rfl, .inl ⟨_, rfl, log_small (by omega), ?_, ?_, (by show 1 ≤ sizeLine; decide), fun ll nll => ?_⟩⟩
        · rw [bell_eq, S_len, List.length_append]
          have := (dg_len b).2 2 (by decide) (by omega)
          show 5 + _ ≤ _
          omega
        · rw [bell_eq, S_len, List.length_append]
          have := (dg_len b).2 2 (by decide) (by omega)
          show 5 + _ ≤ _
          omega
        · rw [bell_eq]
          exact ⟨ll, rfl, nll, same_new nll, upd_same⟩
end
end L3
namespace L3
open PySem L2
theorem mem_jn {c : Nat} (sep : List Nat) : ∀ {ts : List (List Nat)}, c ∈ TK.jn sep ts → c ∈ sep ∨ ∃ t ∈ ts, c ∈ t
  | [], h => by simp [TK.jn] at h
  | [t], h => .inr ⟨t, List.mem_cons_self, h⟩
  | t :: u :: r, h => by
    have h' : c ∈ t ++ (sep ++ TK.jn sep (u :: r)) := h
    rcases List.mem_append.mp h' with h' | h'
    · exact .inr ⟨t, List.mem_cons_self, h'⟩
    rcases List.mem_append.mp h' with h' | h'
    · exact .inl h'
    rcases mem_jn sep h' with h' | ⟨x, hx, hc⟩
    · exact .inl h'
    · exact .inr ⟨x, List.mem_cons_of_mem _ hx, hc⟩
theorem jn_pos {sep t : List Nat} {r : List (List Nat)} (h : t ≠ []) : TK.jn sep (t :: r) ≠ [] := by
  cases r with
  | nil => exact h
  | cons u r =>
    intro e
    have e' : t ++ (sep ++ TK.jn sep (u :: r)) = [] := e
    exact h (List.append_eq_nil_iff.mp e').1
theorem rowC_ne {D : Fm} (hN : NmS D) {n : Nat} {r : Rw} (h : RwOk D n r) : rowC D r ≠ [] := by
  refine jn_pos fun e => ?_
  have := (hN.kn _ h.1).pos
  rw [e] at this
  simp at this
theorem rowC_free {D : Fm} (hN : NmS D) {n : Nat} {r : Rw} (hw : D.width ≤ 24) (hn : n ≤ 1000) (h : RwOk D n r) : 10 ∉ rowC D r := by
  intro hc
  rcases mem_jn _ hc with hc | ⟨t, ht, hc⟩
  · simp at hc
  · have := (rowL_ok hN hw hn h t ht).2 _ hc
    omega
theorem row_split {D : Fm} (hN : NmS D) {n : Nat} {r : Rw} (hw : D.width ≤ 24) (hn : n ≤ 1000) (h : RwOk D n r) : Txt.split (S (rowC D r)) " " = r.k.name :: shown D r := by
  rw [sp_S]
  show Txt.split (S (TK.jn [32] (rowL D r))) (S [32]) = _
  rw [split_jn 32 (rowL D r) (rowC_ne hN h) fun t ht hc => by
    have := (rowL_ok hN hw hn h t ht).2 _ hc
    omega]
  unfold rowL
  exact map_S_cp _
theorem bell_split (b : Nat) : Txt.split (S (bellC ++ dg b)) " " = [("bell" : Str), S (dg b)] := by
  rw [sp_S]
  have e : bellC ++ dg b = TK.jn [32] [[98, 101, 108, 108], dg b] := rfl
  rw [e, split_jn 32 _ (by simp [TK.jn]) ?_]
  · have : S [98, 101, 108, 108] = ("bell" : Str) := by decide +kernel
    simp [this]
  · intro t ht hc
    rcases List.mem_cons.mp ht with rfl | ht
    · revert hc; decide
    · rw [List.mem_singleton.mp ht] at hc
      have := dg_all b 32 hc
      omega
theorem lines_ok {D : Fm} (hN : NmS D) {rs : List Rw} {bl : Option Nat} (hw : D.width ≤ 24) (h : ∀ r ∈ rs, RwOk D rs.length r) (h40 : rs.length ≤ 40) : ∀ t ∈ linesC D rs bl, t ≠ [] ∧ 10 ∉ t := by
  intro t ht
  rcases List.mem_append.mp ht with ht | ht
  · cases bl with
    | none => simp [bellL] at ht
    | some b =>
      have e : t = bellC ++ dg b := by simpa [bellL] using ht
      subst e
      refine ⟨by simp [bellC], fun hc => ?_⟩
      rcases List.mem_append.mp hc with hc | hc
      · revert hc; decide
      · have := dg_all b 10 hc
        omega
  · obtain ⟨r, hr, rfl⟩ := List.mem_map.mp ht
    exact ⟨rowC_ne hN (h r hr), rowC_free hN hw (by omega) (h r hr)⟩
theorem prog_split {D : Fm} (hN : NmS D) {rs : List Rw} {bl : Option Nat} (hw : D.width ≤ 24) (h : ∀ r ∈ rs, RwOk D rs.length r) (h40 : rs.length ≤ 40) (h0 : progC D rs bl ≠ []) : Txt.split (S (progC D rs bl)) "\n" = (linesC D rs bl).map S := by
  rw [nl_S]
  exact split_jn 10 _ h0 fun t ht => (lines_ok hN hw h h40 t ht).2
theorem prog_nil {D : Fm} (hN : NmS D) {rs : List Rw} {bl : Option Nat} (hw : D.width ≤ 24) (h : ∀ r ∈ rs, RwOk D rs.length r) (h40 : rs.length ≤ 40) (h0 : progC D rs bl = []) : linesC D rs bl = [] := by
  have ho := lines_ok (bl := bl) hN hw h h40
  unfold progC at h0
  cases e : linesC D rs bl with
  | nil => rfl
  | cons t r =>
    rw [e] at h0 ho
    exact absurd h0 (jn_pos (ho t List.mem_cons_self).1)
def ahd : Option Nat → Nat
  | none => 0
  | some _ => 1
theorem bellL_len (bl : Option Nat) : (bellL bl).length = ahd bl := by cases bl <;> rfl
def spRP (C Cp : Addr) : Sp := fun vs H Q _ => ∃ v D, ∃ (rs : List Rw) (bl : Option Nat), vs = [v, .str (S (progC D rs bl))] ∧ TabV C H v D ∧ FmOk D ∧ NmS D ∧ D.width ≤ 24 ∧ (∀ r ∈ rs, RwOk D rs.length r) ∧ rs.length ≤ 40 ∧ (∀ b, bl = some b → b ≤ rs.length) ∧
  ∀ v' H', Same H H' → ProgV Cp H' v' rs bl → Q v' H'
section
variable {P : Program} {w : World} {K : PySem.W.Frag} {mg : Str → Option Value} {base : Heap} {C Cp : Addr} {tb tm : Tok}
theorem scRP : FnScope ["table", "text", "lines", "ahead", "many", "bell", "rows", "at", "line", "row"] ["table", "text"] (defScope sReadProgram) := ⟨rfl, rfl, rfl, by decide +kernel, rfl, by decide +kernel, by decide +kernel⟩
set_option maxHeartbeats 8000000 in
theorem ok_rp {f fi : Addr} {fd fdi : FuncData} (F : Fun K "read_program" "read_program" sReadProgram f fd) (B : Bl mg) (B3 : Bl3 mg) (Z : Zb mg tb) (Zr' : Zr mg tm) (MK : Mk K Cp fi) (mgP : mg "Program" = some (.ref Cp)) (IN : FnOk P w K mg base CX0 1 fi fdi ["self", "rows", "bell"] (spPInit Cp)) (bI : Binds K fdi ["self", "rows", "bell"] [])
    (RB : Fn P w K mg base "read_bell" 3 ["line", "rows"] spRB) (RR : Fn P w K mg base "row_read" 6 ["table", "line", "rows"] (spRR C)) : FnOk P w K mg base CX0 7 f fd ["table", "text"] (spRP C Cp) := by
  refine F.ok scRP (fun vs H Q E h => ?_) (fun cdv A outer s H vs Q E hr h => ?_)
  · obtain ⟨v, D, rs, bl, rfl, _⟩ := h
    rfl
  · obtain ⟨v, D, rs, bl, rfl, hT, hD, hN, hw, hrs, h40, hbl, q⟩ := h
    have hr2 : Room 2 _ := hr.mono (by decide)
    have hr3 : Room 3 _ := hr.mono (by decide)
    have sz : (100000 : Nat) ≤ sizeLine := by decide
    have hb40 : ∀ b, bl = some b → b ≤ 40 := fun b e => Nat.le_trans (hbl b e) h40
    have psm := prog_sum hD hN hw hrs h40 hb40
    have plen : (progC D rs bl).length ≤ 2000 := by
      have := jn_len [10] (linesC D rs bl)
      simp only [List.length_cons, List.length_nil] at this
      unfold progC
      omega
    have llen : (linesC D rs bl).length = ahd bl + rs.length := by unfold linesC; rw [List.length_append, bellL_len, List.length_map]
    refine ⟨_, pss_cons (ps_if (pt_not (pt_val (pe_callB (isi_ty (T := "str")) (by rfl) B.isinstance boot_isi (pa_cons (pv 1) (pa_cons (pe_ty (by rfl) B.str boot_str') pa_nil))))) (pss_one ps_never) pss_nil)
      (pss_cut (fun σ H' => ∃ ll, σ = [some v, some (.str (S (progC D rs bl))), some (.ref ll), none, none, none, none, none, none, none] ∧ Same H H' ∧ H' ll = some (.lst (txV (linesC D rs bl)))) (ps_set (i := 2) scRP.nd rfl (Or.inl rfl) (pe_ifExp (pt_truth (pv 1) (fun _ => rfl)) (pe_bm PySem.F.plainAttrs_str PySem.F.slot_str_split PySem.F.type_str_split mt_splitA (pv 1) (pa_cons pe_str pa_nil)) (pe_lst pa_nil)))
      (pss_cut (fun σ H' => ∃ ll, σ = [some v, some (.str (S (progC D rs bl))), some (.ref ll), some (.int (ahd bl : Nat)), none, none, none, none, none, none] ∧ Same H H' ∧ H' ll = some (.lst (txV (linesC D rs bl)))) (ps_set (i := 3) scRP.nd rfl (Or.inl rfl) (pe_ifExp (PW.pt (pw_and (pt_truth (pv 2) (fun _ => rfl)) (pw_and1 (pt_cmpR op_eq (pe_ix ix_list (pe_bm PySem.F.plainAttrs_str PySem.F.slot_str_split PySem.F.type_str_split mt_splitA (pe_ix ix_list (pv 2) pe_int (fun _ _ => rfl)) (pa_cons pe_str pa_nil)) pe_int (fun _ _ => rfl)) (pe_glob (v := .str "bell") rfl Z.bell ⟨_, rfl⟩) (nomark _))))) pe_int pe_int))
      (pss_cut (fun σ H' => ∃ ll, σ = [some v, some (.str (S (progC D rs bl))), some (.ref ll), some (.int (ahd bl : Nat)), some (.int (rs.length : Nat)), none, none, none, none, none] ∧ Same H H' ∧ H' ll = some (.lst (txV (linesC D rs bl)))) (ps_set (i := 4) scRP.nd rfl (Or.inl rfl) (pe_op op_sub (pe_callB call_len_seq (by rfl) B.len PySem.boot_len (pa_cons (pv 2) pa_nil)) (pv 3)))
      (pss_cut (fun σ H' => ∃ ll, σ = [some v, some (.str (S (progC D rs bl))), some (.ref ll), some (.int (ahd bl : Nat)), some (.int (rs.length : Nat)), some (blV bl), none, none, none, none] ∧ Same H H' ∧ H' ll = some (.lst (txV (linesC D rs bl)))) (ps_set (i := 5) scRP.nd rfl (Or.inl rfl) (pe_ifExp (pt_truth (pv 3) (fun _ => rfl)) (pe_fn RB hr3 rfl (pa_cons (pe_ix ix_list (pv 2) pe_int (fun _ _ => rfl)) (pa_cons (pv 4) pa_nil))) pe_non))
      (pss_cons (ps_set (i := 6) scRP.nd rfl (Or.inl rfl) (pe_lst pa_nil))
      (pss_cons (ps_for PassesOwn.never rfl (pi_enum rfl B3.enumerate (pa_cons (pe_slice sl_list (pv 2) (po_some (pv 3)) po_none) pa_nil)) (pg_tup rfl (pgs_cons (pg_name (i := 7) scRP.nd rfl (Or.inl rfl)) (pgs_cons (pg_name (i := 8) scRP.nd rfl (Or.inl rfl)) pgs_nil)))
        (pss_cons (ps_set (i := 9) scRP.nd rfl (Or.inl rfl) (pe_ifExp (pt_cmpR op_eq (pv 7) (pe_glob (v := .int 40) rfl Zr'.mr ⟨_, rfl⟩) (nomark _)) pe_non (pe_fn RR hr rfl (pa_cons (pv 0) (pa_cons (pv 8) (pa_cons (pv 4) pa_nil))))))
        (pss_cons (ps_if (pt_cmpR op_isN (pv 9) pe_non (nomark _)) (pss_one ps_never) pss_nil)
        (pss_one (ps_expr (pe_bm PySem.F.plainAttrs_list PySem.F.slot_list_append PySem.F.type_list_append mt_append (pv 6) (pa_cons (pv 9) pa_nil)))))))
      (pss_one (ps_ret (pe_make MK IN hr2 rfl mgP bI .nil pass0 (pa_cons (pv 6) (pa_cons (pv 5) pa_nil))))))))))), ?_⟩
    refine ⟨_, rfl, _, _, _, rfl, .str _, rfl, _, rfl, iteF ?_⟩
    refine ⟨?_, ?_⟩
    · rintro σ H1 ⟨ll, rfl, s1, ell⟩
      refine ⟨?_, ?_⟩
      · rintro σ H2 ⟨ll, rfl, s2, ell⟩
        have em : (((txV (linesC D rs bl)).length : Nat) : Int) - (ahd bl : Nat) = (rs.length : Nat) := by
          unfold txV
          rw [List.length_map, llen]
          omega
        refine ⟨?_, ⟨_, rfl, ll, _, rfl, .inl (SqL.of ell), _, rfl, _, _, rfl, rfl, ⟨ll, by rw [← em]; rfl, s2, ell⟩⟩⟩
        rintro σ H2 ⟨ll, rfl, s2, ell⟩
        refine ⟨?_, ?_⟩
        · rintro σ H3 ⟨ll, rfl, s3, ell⟩
          refine ⟨(by show 0 ≤ sizeLine; decide), fun lr nlr => ?_⟩
          have s4 := same_new (o := .lst []) nlr
          have e4 : (upd H3 lr (.lst [])) lr = some (.lst []) := upd_same
          have el4 := s4 _ _ ell
          generalize upd H3 lr (.lst ([] : List V)) = H4 at *
          refine ⟨_, rfl, _, rfl, _, rfl, ll, _, rfl, SqL.of el4, fun lc nlc => ?_⟩
          have ecut : cutV (txV (linesC D rs bl)) (some (ahd bl : Nat)) none = txV (rs.map (rowC D)) := by
            unfold cutV
            have hle : ahd bl ≤ (txV (linesC D rs bl)).length := by
              unfold txV
              rw [List.length_map, llen]
              omega
            rw [HT.sIx_nat, HT.sIx_none, Nat.min_eq_left hle]
            have e9 : (txV (linesC D rs bl)).drop (ahd bl) = txV (rs.map (rowC D)) := by
              unfold txV linesC
              rw [List.map_append]
              exact List.drop_left' (by rw [List.length_map, bellL_len])
            rw [e9]
            refine List.take_of_length_le ?_
            unfold txV
            rw [List.length_map, List.length_map, List.length_map, llen]
            omega
          rw [ecut]
          have s5 := same_new (o := .lst (txV (rs.map (rowC D)))) nlc
          have e5 : (upd H4 lc (.lst (txV (rs.map (rowC D))))) lc = some (.lst (txV (rs.map (rowC D)))) := upd_same
          have er5 := s5 _ _ e4
          generalize upd H4 lc (.lst (txV (rs.map (rowC D)))) = H5 at *
          have nlc' : lc ≠ lr := fun e => by rw [e, e4] at nlc; cases nlc
          have s35 := s4.trans s5
          have s05 := s3.trans s35
          have nH : H lr = none := s3.free nlr
          have ltx : (txV (rs.map (rowC D))).length = rs.length := by unfold txV; rw [List.length_map, List.length_map]
          refine ⟨lc, rfl, ⟨_, SqL.of e5⟩, ?_⟩
          refine for_enum (K := K) (l := lc) (xs := txV (rs.map (rowC D))) (fun i σ H' => ∃ (v7 v8 v9 : Option V) (us : List V), σ = [some v, some (.str (S (progC D rs bl))), some (.ref ll), some (.int (ahd bl : Nat)), some (.int (rs.length : Nat)), some (blV bl), some (.ref lr), v7, v8, v9] ∧ ButO lr H5 H' ∧ H' lr = some (.lst us) ∧ us.length = i ∧ Paired (RowV H') us (rs.take i))
            ⟨_, _, _, [], rfl, ButO.refl _ _, er5, rfl, .nil⟩ (fun i σ H' _ ⟨_, _, _, _, _, b', _⟩ => SqL.of (b' _ _ e5 nlc')) ?_ ?_
          · rintro i x σ H6 T1 hx nT ⟨v7, v8, v9, us, rfl, b6, er6, lu, hus⟩
            obtain ⟨r, hri, rfl⟩ : ∃ r, rs[i]? = some r ∧ x = .str (S (rowC D r)) := by
              unfold txV at hx
              rw [List.getElem?_map, List.getElem?_map] at hx
              cases e : rs[i]? with
              | none => rw [e] at hx; cases hx
              | some g => rw [e] at hx; exact ⟨g, rfl, (Option.some.inj hx).symm⟩
            have hlt : i < rs.length := (List.getElem?_eq_some_iff.mp hri).1
            have hRk := hrs r (List.mem_of_getElem? hri)
            have s06 : Same H H6 := same_but nH s05 b6
            have s7 := same_new (o := .tup [.int (i : Int), .str (S (rowC D r))]) nT
            refine ⟨T1, _, rfl, SqT.of upd_same, rfl, _, _, rfl, _, _, rfl, rfl, ?_⟩
            refine ⟨_, rfl, rfl, _, rfl, iteB (decide_eq_false fun e => ?_) ?_⟩
            · have := V.int.inj e
              omega
            have hrl := rowC_len hD hN hw (by omega : rs.length ≤ 1000) hRk
            refine ⟨_, rfl, _, rfl, _, rfl, v, D, _, rs.length, r, rfl, hT.same (s06.trans s7), hD, hw, by omega, hRk, row_split hN hw (by omega) hRk, by rw [S_len]; omega, fun u H8 s8 hu => ?_⟩
            have s68 := s7.trans s8
            obtain ⟨pu, tu, eu, hpu, htu⟩ := id hu
            refine ⟨_, rfl, rfl, _, rfl, iteB (by rw [eu]; simp) ?_⟩
            have er8 := s68 _ _ er6
            refine ⟨_, rfl, .inl ⟨rfl, _, SqL.of er8⟩, _, rfl, lr, us, _, rfl, rfl, er8, by omega, ?_⟩
            have k9 := kt_ls (ys := us ++ [u]) er8
            refine ⟨_, _, _, us ++ [u], rfl, fun b o e nb => ?_, upd_same, by simp [lu], ?_⟩
            · rw [upd_ne nb]
              exact s68 _ _ (b6 _ _ e nb)
            · rw [List.take_succ, hri]
              exact psnoc (RowV.kt k9 hu) (pmap (fun _ _ h => RowV.kt k9 (RowV.kt (kt_same s68) h)) hus)
          · rintro σ H6 ⟨v7, v8, v9, us, rfl, b6, er6, lu, hus⟩
            rw [ltx, List.take_length] at hus
            have s06 : Same H H6 := same_but nH s05 b6
            refine ⟨_, rfl, _, rfl, fun x dx nx ndx ne => ?_⟩
            have sx := same_mut (o := .ins Cp dx []) nx (same_new (o := .own x) ndx)
            refine ⟨x, dx, lr, us, _, rfl, upd_same, sx _ _ er6, fun t H8 e8 nt et b8 => ⟨rfl, ?_⟩⟩
            have s68 : Same H6 H8 := same_but nx sx b8
            exact q _ _ (s06.trans s68) ⟨x, dx, t, us, rfl, e8, et, pmap (fun _ _ h => RowV.kt (kt_same s68) h) hus⟩
        · cases bl with
          | none => exact ⟨_, rfl, _, rfl, iteF ⟨ll, rfl, s2, ell⟩⟩
          | some b =>
            refine ⟨_, rfl, _, rfl, iteT ?_⟩
            have e0 : txV (linesC D rs (some b)) = .str (S (bellC ++ dg b)) :: txV (rs.map (rowC D)) := rfl
            rw [e0] at ell
            refine ⟨_, rfl, ll, _, _, _, rfl, rfl, SqL.of ell, atI0, _, rfl, b, rs.length, rfl, hbl b rfl, by omega, fun H4 s4 => ?_⟩
            exact ⟨ll, rfl, s2.trans s4, by rw [e0]; exact s4 _ _ ell⟩
      · cases hbl' : bl with
        | some b =>
          subst hbl'
          have e0 : txV (linesC D rs (some b)) = .str (S (bellC ++ dg b)) :: txV (rs.map (rowC D)) := rfl
          have ell0 := ell
          rw [e0] at ell
          refine ⟨_, rfl, _, .inl ⟨_, SqL.of ell, rfl⟩, iteT ?_⟩
          have hl2 : (bellC ++ dg b).length ≤ 100000 := by
            have := (dg_len b).2 2 (by decide) (by have := hb40 b rfl; omega)
            rw [List.length_append]
            show 5 + _ ≤ _
            omega
          refine ⟨_, rfl, ll, _, _, _, rfl, rfl, SqL.of ell, atI0, rfl, _, _, rfl, rfl, by decide +kernel, by rw [S_len]; exact hl2, fun lw nlw => ?_⟩
          rw [bell_split]
          have s2 := same_new (o := .lst ([("bell" : Str), S (dg b)].map V.str)) nlw
          refine ⟨lw, _, _, _, rfl, rfl, SqL.of upd_same, atI0, rfl, _, rfl, iteA (by decide +kernel) ?_⟩
          exact ⟨ll, rfl, s1.trans s2, s2 _ _ ell0⟩
        | none =>
          subst hbl'
          cases hrs' : rs with
          | nil =>
            subst hrs'
            have e0 : txV (linesC D [] none) = [] := rfl
            rw [e0] at ell
            refine ⟨_, rfl, _, .inl ⟨_, SqL.of ell, rfl⟩, iteF ?_⟩
            refine iteF ?_
            exact ⟨ll, rfl, s1, ell⟩
          | cons r rr =>
            subst hrs'
            have e0 : txV (linesC D (r :: rr) none) = .str (S (rowC D r)) :: txV (rr.map (rowC D)) := rfl
            have hRk := hrs r List.mem_cons_self
            have ell0 := ell
            rw [e0] at ell
            refine ⟨_, rfl, _, .inl ⟨_, SqL.of ell, rfl⟩, iteT ?_⟩
            have hrl := rowC_len hD hN hw (by omega : (r :: rr).length ≤ 1000) hRk
            refine ⟨_, rfl, ll, _, _, _, rfl, rfl, SqL.of ell, atI0, rfl, _, _, rfl, rfl, by decide +kernel, by rw [S_len]; omega, fun lw nlw => ?_⟩
            rw [row_split hN hw (by omega : (r :: rr).length ≤ 1000) hRk]
            have s2 := same_new (o := .lst ((r.k.name :: shown D r).map V.str)) nlw
            have hne : r.k.name ≠ "bell" := fun e => by
              have := (hN.kn _ hRk.1).1
              rw [e] at this
              exact this (by decide +kernel)
            refine ⟨lw, _, _, _, rfl, rfl, SqL.of upd_same, atI0, rfl, _, rfl, iteB (decide_eq_false fun e => hne (V.str.inj e)) ?_⟩
            exact ⟨ll, rfl, s1.trans s2, s2 _ _ ell0⟩
    · refine ⟨_, rfl, _, ⟨by rw [S_len]; omega, rfl⟩, ?_⟩
      by_cases h0 : progC D rs bl = []
      · have hl := prog_nil hN hw hrs h40 h0
        refine iteB (by rw [h0]; rfl) ?_
        refine ⟨(by show 0 ≤ sizeLine; decide), fun ll nll => ?_⟩
        exact ⟨ll, rfl, same_new nll, by rw [hl]; exact upd_same⟩
      · refine iteA ?_ ?_
        · rw [S_len]
          have : (progC D rs bl).length ≠ 0 := fun e => h0 (List.length_eq_zero_iff.mp e)
          simpa using this
        refine ⟨_, rfl, rfl, _, _, rfl, rfl, by decide +kernel, by rw [S_len]; omega, fun ll nll => ?_⟩
        rw [prog_split hN hw hrs h40 h0]
        refine ⟨ll, rfl, same_new nll, ?_⟩
        rw [upd_same]
        congr 2
        unfold txV
        rw [List.map_map]
        rfl
end
end L3
namespace L3
open PySem L2
def stems : List (List Nat) := [[], [115, 101, 116], [105, 102], [116, 111, 112], [110, 101, 120, 116], [98], [103, 111], [99, 97, 108, 108]]
def tailC (fi k : Nat) : List Nat := [([113, 118, 106, 121, 122] : List Nat).getD ((fi + 2 * k) % 5) 0] ++ List.replicate (k / 5) 97
def nmC (stem : List Nat) (way fi k : Nat) : List Nat := if way = 0 then stem ++ tailC fi k else if way = 1 then tailC fi k ++ stem else stem.take (k % (stem.length + 1)) ++ tailC fi k
def nmsC (si way fi m : Nat) : List (List Nat) := (List.range m).map (nmC (stems.getD si []) way fi)
def ownC : List (List Nat) := ownL.map cp
def okT (t : List Nat) : Bool := decide (1 ≤ t.length) && decide (t.length ≤ 8) && !ownC.contains t && t.all fun c => decide (97 ≤ c) && decide (c ≤ 122)
def ndB : List (List Nat) → Bool
  | [] => true
  | t :: r => !r.contains t && ndB r
theorem ndB_ok : ∀ {l : List (List Nat)}, ndB l = true → l.Nodup
  | [], _ => List.nodup_nil
  | t :: r, h => by
    unfold ndB at h
    simp at h
    exact List.nodup_cons.mpr ⟨h.1, ndB_ok h.2⟩
theorem nms_all : ((List.range 8).all fun si => (List.range 3).all fun way => (List.range 5).all fun fi => ndB (nmsC si way fi 10) && (nmsC si way fi 10).all okT) = true := by decide +kernel
theorem nms_good {si way fi : Nat} (h1 : si < 8) (h2 : way < 3) (h3 : fi < 5) : (nmsC si way fi 10).Nodup ∧ ∀ t ∈ nmsC si way fi 10, 1 ≤ t.length ∧ t.length ≤ 8 ∧ t ∉ ownC ∧ ∀ c ∈ t, 97 ≤ c ∧ c ≤ 122 := by
  have h := List.all_eq_true.mp (List.all_eq_true.mp (List.all_eq_true.mp nms_all si (List.mem_range.mpr h1)) way (List.mem_range.mpr h2)) fi (List.mem_range.mpr h3)
  obtain ⟨ha, hb⟩ := Bool.and_eq_true_iff.mp h
  refine ⟨ndB_ok ha, fun t ht => ?_⟩
  have ho := List.all_eq_true.mp hb t ht
  unfold okT at ho
  simp only [Bool.and_eq_true, decide_eq_true_eq, List.all_eq_true, Bool.not_eq_true'] at ho
  obtain ⟨⟨⟨h4, h5⟩, h6⟩, h7⟩ := ho
  refine ⟨h4, h5, fun hm => ?_, h7⟩
  rw [List.contains_iff_mem.mpr hm] at h6
  cases h6
theorem nms_take {si way fi m : Nat} (h : m ≤ 10) : nmsC si way fi m = (nmsC si way fi 10).take m := by
  unfold nmsC
  rw [← List.map_take, List.take_range, Nat.min_eq_left h]
def spLNames : Sp := fun vs H Q _ => ∃ (p : Addr) (m : Nat), vs = [.ref p, .int m] ∧ Strm H p ∧ m ≤ 10 ∧ ∀ (l : Addr) H' (si way fi : Nat), si < 8 → way < 3 → fi < 5 → Strm H' p → But p H H' → H l = none → H' l = some (.lst (txV (nmsC si way fi m))) → Q (.ref l) H'
theorem stem_at {si : Nat} (h : si < 8) : ([("" : Str), "set", "if", "top", "next", "b", "go", "call"].map V.str)[si]? = some (.str (S (stems.getD si []))) := by
  have e : ([("" : Str), "set", "if", "top", "next", "b", "go", "call"] : List Str) = stems.map S := by decide +kernel
  rw [e, List.map_map, List.getElem?_map]
  have hl : si < stems.length := h
  rw [List.getElem?_eq_getElem hl]
  simp [hl]
theorem stem_len (si : Nat) : (stems.getD si []).length ≤ 4 := by
  by_cases h : si < 8
  · revert si; decide +kernel
  · have : stems.getD si [] = [] := by
      rw [List.getD_eq_getElem?_getD, List.getElem?_eq_none (by show 8 ≤ si; omega)]
      rfl
    rw [this]; simp
section
variable {P : Program} {w : World} {K : PySem.W.Frag} {mg : Str → Option Value} {base : Heap} {C Cp : Addr} {tb tm : Tok}
theorem scLNames : FnScope ["_law_stream_here", "_law_many", "_law_stem", "_law_way", "_law_first", "_law_names_here", "_law_k", "_law_tail"] ["_law_stream_here", "_law_many"] (defScope sNames) := ⟨rfl, rfl, rfl, by decide +kernel, rfl, by decide +kernel, by decide +kernel⟩
set_option maxHeartbeats 4000000 in
theorem ok_lnames {f : Addr} {fd : FuncData} (F : Fun K "_law_names" "_law_names" sNames f fd) (B : Bl mg) (TK' : Fn P w K mg base "_law_take" 1 ["_law_stream_here", "_law_many"] spTake) : FnOk P w K mg base CX0 2 f fd ["_law_stream_here", "_law_many"] spLNames := by
  refine F.ok scLNames (fun vs H Q E h => ?_) (fun cdv A outer s H vs Q E hr h => ?_)
  · obtain ⟨p, m, rfl, _⟩ := h
    rfl
  · obtain ⟨p, m, rfl, hp, hm, q⟩ := h
    have sz : (100000 : Nat) ≤ sizeLine := by decide
    refine ⟨_, pss_cons (ps_set (i := 2) scLNames.nd rfl (Or.inl rfl) (pe_ix ix_list (pe_lst (pa_cons pe_str (pa_cons pe_str (pa_cons pe_str (pa_cons pe_str (pa_cons pe_str (pa_cons pe_str (pa_cons pe_str (pa_cons pe_str pa_nil))))))))) (pe_fn TK' hr rfl (pa_cons (pv 0) (pa_cons pe_int pa_nil))) (fun _ _ => rfl)))
      (pss_cons (ps_set (i := 3) scLNames.nd rfl (Or.inl rfl) (pe_fn TK' hr rfl (pa_cons (pv 0) (pa_cons pe_int pa_nil))))
      (pss_cons (ps_set (i := 4) scLNames.nd rfl (Or.inl rfl) (pe_fn TK' hr rfl (pa_cons (pv 0) (pa_cons pe_int pa_nil))))
      (pss_cons (ps_set (i := 5) scLNames.nd rfl (Or.inl rfl) (pe_lst pa_nil))
      (pss_cons (ps_for PassesOwn.never rfl (pi_range1 rfl B.range (pa_cons (pv 1) pa_nil)) (pg_name (i := 6) scLNames.nd rfl (Or.inl rfl))
        (pss_cons (ps_set (i := 7) scLNames.nd rfl (Or.inl rfl) (pe_op op_add_str (pe_ix ix_str pe_str (pe_op op_mod (pe_op op_add (pv 4) (pe_op op_mul pe_int (pv 6))) pe_int) (fun _ _ => rfl)) (pe_op op_mulS pe_str (pe_op op_fdiv (pv 6) pe_int))))
        (pss_one (ps_if (pt_cmpR op_eq (pv 3) pe_int (nomark _)) (pss_one (ps_expr (pe_bm PySem.F.plainAttrs_list PySem.F.slot_list_append PySem.F.type_list_append mt_append (pv 5) (pa_cons (pe_op op_add_str (pv 2) (pv 7)) pa_nil))))
          (pss_one (ps_if (pt_cmpR op_eq (pv 3) pe_int (nomark _)) (pss_one (ps_expr (pe_bm PySem.F.plainAttrs_list PySem.F.slot_list_append PySem.F.type_list_append mt_append (pv 5) (pa_cons (pe_op op_add_str (pv 7) (pv 2)) pa_nil))))
            (pss_one (ps_expr (pe_bm PySem.F.plainAttrs_list PySem.F.slot_list_append PySem.F.type_list_append mt_append (pv 5) (pa_cons (pe_op op_add_str (pe_slice sl_str (pv 2) po_none (po_some (pe_op op_mod (pv 6) (pe_op op_add (pe_callB call_len_str (by rfl) B.len PySem.boot_len (pa_cons (pv 2) pa_nil)) pe_int)))) (pv 7)) pa_nil))))))))))
      (pss_one (ps_ret (pv 5))))))), ?_⟩
    refine ⟨(by show 8 ≤ sizeLine; decide), fun l8 n8 => ?_⟩
    have s1 := same_new (o := .lst ([("" : Str), "set", "if", "top", "next", "b", "go", "call"].map V.str)) n8
    have hp1 := hp.same s1
    have e8 : (upd H l8 (.lst ([("" : Str), "set", "if", "top", "next", "b", "go", "call"].map V.str))) l8 = some (.lst ([("" : Str), "set", "if", "top", "next", "b", "go", "call"].map V.str)) := upd_same
    refine ⟨_, rfl, p, 8, rfl, hp1, by decide, by decide, fun si H2 hsi g2 b2 => ?_⟩
    have n8p := hp.ne n8
    refine ⟨l8, _, _, _, rfl, rfl, SqL.of (b2 _ _ e8 n8p.symm), atI_nat (stem_at hsi), ?_⟩
    have b02 : But p H H2 := (but_of s1).trans b2
    refine ⟨_, rfl, p, 3, rfl, g2, by decide, by decide, fun way H3 hway g3 b3 => ?_⟩
    refine ⟨_, rfl, p, 5, rfl, g3, by decide, by decide, fun fi H4 hfi g4 b4 => ?_⟩
    have b04 : But p H H4 := b02.trans (b3.trans b4)
    clear b02 b2 b3 b4 g2 g3
    refine ⟨(by show 0 ≤ sizeLine; decide), fun ln nln => ?_⟩
    have s5 := same_new (o := .lst []) nln
    have e5 : (upd H4 ln (.lst [])) ln = some (.lst []) := upd_same
    have g5 := g4.same s5
    have pln : p ≠ ln := g4.ne nln
    have nH : H ln = none := by
      cases h : H ln with
      | none => rfl
      | some o =>
        have := b04 _ _ h pln.symm
        rw [nln] at this
        cases this
    have b05 : But p H (upd H4 ln (.lst [])) := b04.same s5
    generalize upd H4 ln (.lst ([] : List V)) = H5 at *
    refine ⟨_, rfl, _, rfl, by omega, by omega, ?_⟩
    rw [show ((m : Int)).toNat = m from Int.toNat_natCast m]
    have sl := stem_len si
    refine for_range (lo := 0) (n := m) (fun i σ H' => ∃ v6 v7 : Option V, σ = [some (.ref p), some (.int m), some (.str (S (stems.getD si []))), some (.int way), some (.int fi), some (.ref ln), v6, v7] ∧ Strm H' p ∧ But p H H' ∧ H' ln = some (.lst (txV (nmsC si way fi i)))) ⟨_, _, rfl, g5, b05, e5⟩ ?_ ?_
    · rintro k σ H6 hk ⟨v6, v7, rfl, g6, b6, e6⟩
      have hk' : k < m := hk
      have e0 : ((0 : Int) + (k : Int)) = (k : Int) := by omega
      rw [e0]
      have hmod : ((fi : Int) + 2 * (k : Int)) % 5 = (((fi + 2 * k) % 5 : Nat) : Int) := by omega
      have hdiv : (k : Int) / 5 = ((k / 5 : Nat) : Int) := by omega
      have hq5 : (fi + 2 * k) % 5 < 5 := Nat.mod_lt _ (by decide)
      have qat : ∀ j < 5, ("qvjyz" : Str).cps.toList[j]? = some (([113, 118, 106, 121, 122] : List Nat).getD j 0) := by decide +kernel
      have tlen : (tailC fi k).length ≤ 3 := by
        unfold tailC
        rw [List.length_append, List.length_replicate]
        simp
        omega
      refine ⟨_, rfl, _, rfl, _, _, rfl, rfl, .inl ⟨by decide, by decide⟩, _, _, rfl, rfl, _, _, rfl, rfl, (by show (0 : Int) < 5; decide), ?_⟩
      refine ⟨"qvjyz", _, _, rfl, rfl, by decide +kernel, by show atI _ (((fi : Int) + 2 * (k : Int)) % 5) = _; rw [hmod]; exact atI_nat (qat _ hq5), ?_⟩
      refine ⟨_, rfl, _, _, rfl, rfl, ⟨by show (0 : Int) < 5; decide, by show (5 : Int) < 1073741824; decide⟩, ?_⟩
      refine ⟨97, k / 5, congrArg V.str (by decide +kernel), congrArg V.int hdiv, by omega, ?_⟩
      refine ⟨_, _, rfl, rfl, ?_, ?_⟩
      · show 1 + (S _).length ≤ _
        rw [S_len, List.length_replicate]
        omega
      have et : ((⟨#[([113, 118, 106, 121, 122] : List Nat).getD ((fi + 2 * k) % 5) 0]⟩ : Str) ++ S (List.replicate (k / 5) 97)) = S (tailC fi k) := S_app [_] _
      rw [et]
      have fin : ∀ nm, nm = nmC (stems.getD si []) way fi k → ∃ v6 v7 : Option V, [some (V.ref p), some (.int m), some (.str (S (stems.getD si []))), some (.int way), some (.int fi), some (.ref ln), some (.int k), some (.str (S (tailC fi k)))] = [some (.ref p), some (.int m), some (.str (S (stems.getD si []))), some (.int way), some (.int fi), some (.ref ln), v6, v7] ∧ Strm (upd H6 ln (.lst (txV (nmsC si way fi k) ++ [.str (S nm)]))) p ∧ But p H (upd H6 ln (.lst (txV (nmsC si way fi k) ++ [.str (S nm)]))) ∧ (upd H6 ln (.lst (txV (nmsC si way fi k) ++ [.str (S nm)]))) ln = some (.lst (txV (nmsC si way fi (k + 1)))) := by
        rintro nm rfl
        refine ⟨_, _, rfl, ?_, ?_, ?_⟩
        · obtain ⟨x, y, z, e⟩ := g6
          exact ⟨x, y, z, by rw [upd_ne pln]; exact e⟩
        · intro b o e nb
          rw [upd_ne (ne_of_none e nH)]
          exact b6 _ _ e nb
        · rw [upd_same]
          unfold nmsC txV
          rw [List.range_succ, List.map_append, List.map_append]
          rfl
      have lnm : (txV (nmsC si way fi k)).length < sizeLine := by
        unfold txV nmsC
        rw [List.length_map, List.length_map, List.length_range]
        omega
      refine ⟨_, rfl, rfl, _, rfl, ite2 (fun h => ?_) (fun h => ?_)⟩
      · have h' : (way : Int) = 0 := V.int.inj (of_decide_eq_true h)
        have hw0 : way = 0 := by omega
        refine ⟨_, rfl, .inl ⟨rfl, _, SqL.of e6⟩, _, rfl, _, rfl, _, _, rfl, rfl, by rw [S_len, S_len]; omega, ln, _, _, rfl, rfl, e6, lnm, ?_⟩
        rw [S_app]
        exact fin _ (by unfold nmC; rw [if_pos hw0])
      have nw0 : way ≠ 0 := fun e => h (decide_eq_true (by rw [e]; rfl))
      refine ⟨_, rfl, rfl, _, rfl, ite2 (fun h => ?_) (fun h => ?_)⟩
      · have h' : (way : Int) = 1 := V.int.inj (of_decide_eq_true h)
        have hw1 : way = 1 := by omega
        refine ⟨_, rfl, .inl ⟨rfl, _, SqL.of e6⟩, _, rfl, _, rfl, _, _, rfl, rfl, by rw [S_len, S_len]; omega, ln, _, _, rfl, rfl, e6, lnm, ?_⟩
        rw [S_app]
        exact fin _ (by unfold nmC; rw [if_neg nw0, if_pos hw1])
      have nw1 : way ≠ 1 := fun e => h (decide_eq_true (by rw [e]; rfl))
      refine ⟨_, rfl, .inl ⟨rfl, _, SqL.of e6⟩, _, rfl, _, rfl, _, rfl, _, rfl, by rw [S_len]; omega, _, _, rfl, rfl, _, _, rfl, rfl, ?_, _, rfl, _, rfl, by omega, ?_⟩
      · rw [S_len]
        show (0 : Int) < ((stems.getD si []).length : Int) + 1
        omega
      have hcut : cutL (stems.getD si []) none (some ((k : Int) % (((S (stems.getD si [])).length : Int) + 1))) = (stems.getD si []).take (k % ((stems.getD si []).length + 1)) := by
        rw [S_len]
        have e1 : (k : Int) % (((stems.getD si []).length : Int) + 1) = ((k % ((stems.getD si []).length + 1) : Nat) : Int) := by
          rw [Int.natCast_emod]
          rfl
        have hlt : k % ((stems.getD si []).length + 1) < (stems.getD si []).length + 1 := Nat.mod_lt _ (by omega)
        unfold cutL
        rw [e1, HT.sIx_none, HT.sIx_nat, Nat.min_eq_left (by omega), List.drop_zero, Nat.sub_zero]
      refine ⟨_, rfl, _, _, rfl, rfl, ?_, ln, _, _, rfl, rfl, e6, lnm, ?_⟩
      · have : (cutL (stems.getD si []) none (some ((k : Int) % (((S (stems.getD si [])).length : Int) + 1)))).length ≤ 4 := by
          rw [hcut, List.length_take]
          omega
        rw [S_len, S_len]
        exact Nat.le_trans (Nat.add_le_add this tlen) (by omega)
      · rw [S_app]
        exact fin _ (by unfold nmC; rw [if_neg nw0, if_neg nw1]; exact congrArg (· ++ _) hcut)
    · rintro σ H6 ⟨v6, v7, rfl, g6, b6, e6⟩
      exact ⟨_, rfl, q ln H6 si way fi hsi hway hfi g6 b6 nH e6⟩
end
end L3
namespace L3
open PySem L2
theorem ix_listK {X : Cx} {K : PySem.W.Frag} (h : X.K = K) : IxR X (rIxL K) := by subst h; exact ix_list
theorem ix_tupK {X : Cx} {K : PySem.W.Frag} (h : X.K = K) : IxR X (rIxT K) := by subst h; exact ix_tup
theorem len_seqK {X : Cx} {K : PySem.W.Frag} (h : X.K = K) : CallR X (.builtin "len") (fun xs H Q => ∃ p ys, xs = [.ref p] ∧ (SqL K H p ys ∨ SqT K H p ys) ∧ Q (.int ys.length) H) := by subst h; exact call_len_seq
theorem put_eq {kvs : List (Key × V)} {k : Key} {y : V} : valV (putK kvs k y) k = some y := by rw [valV_put, if_pos rfl]
theorem put_ne {kvs : List (Key × V)} {k j : Key} {y : V} (h : j ≠ k) : valV (putK kvs k y) j = valV kvs j := by rw [valV_put, if_neg h]
theorem dget_of {H : Hp} {a : Addr} {kvs : List (Key × V)} {z : Str} {v : V} (e : H a = some (.dK kvs)) (h : valV kvs (Sum.inr z) = some v) : DGet H a (.str z) (some v) := by
  have := DGet.k (k := Sum.inr z) e
  rw [h] at this
  exact this
theorem atI1 {α : Type} {x y : α} {r : List α} : atI (x :: y :: r) 1 = some y := atI_nat (j := 1) (xs := x :: y :: r) rfl
theorem free_b {p l : Addr} {H H1 : Hp} (b : But p H H1) (g : Strm H1 p) (n : H1 l = none) : H l = none := by
  have hl := g.ne n
  cases e : H l with
  | none => rfl
  | some o =>
    have := b _ _ e hl.symm
    rw [n] at this
    cases this
theorem cut_lo (xs : List V) (n : Nat) : cutV xs (some (n : Int)) none = xs.drop n := by
  unfold cutV
  rw [HT.sIx_nat, HT.sIx_none]
  by_cases h : n ≤ xs.length
  · rw [Nat.min_eq_left h]
    exact List.take_of_length_le (by rw [List.length_drop]; omega)
  · rw [Nat.min_eq_right (by omega), List.drop_of_length_le (Nat.le_refl _), List.drop_of_length_le (by omega)]
    simp
theorem cut_hi (xs : List V) (n : Nat) : cutV xs none (some (n : Int)) = xs.take n := by
  unfold cutV
  rw [HT.sIx_nat, HT.sIx_none, List.drop_zero, Nat.sub_zero]
  by_cases h : n ≤ xs.length
  · rw [Nat.min_eq_left h]
  · rw [Nat.min_eq_right (by omega), List.take_of_length_le (Nat.le_refl _), List.take_of_length_le (by omega)]
theorem cut_lh (xs : List V) (n m : Nat) (h : n + m ≤ xs.length) : cutV xs (some (n : Int)) (some ((n + m : Nat) : Int)) = (xs.drop n).take m := by
  unfold cutV
  rw [HT.sIx_nat, HT.sIx_nat, Nat.min_eq_left h, Nat.min_eq_left (by omega : n ≤ xs.length), Nat.add_sub_cancel_left]
theorem txV_drop (l : List (List Nat)) (n : Nat) : (txV l).drop n = txV (l.drop n) := by unfold txV; rw [List.map_drop]
theorem txV_take (l : List (List Nat)) (n : Nat) : (txV l).take n = txV (l.take n) := by unfold txV; rw [List.map_take]
theorem txV_strs (l : List (List Nat)) : txV l = strsV (l.map S) := by unfold txV strsV; rw [List.map_map]; rfl
structure KpV (H : Hp) (d : Addr) (D : Fm) (fn : List Str) (kvs : List (Key × V)) (lf lp lm lk lg : Addr) (ks : List V) : Prop where
  dd : H d = some (.dK kvs)
  v1 : valV kvs (Sum.inr "width") = some (.int D.width)
  v2 : valV kvs (Sum.inr "cells") = some (.int D.cells)
  v3 : valV kvs (Sum.inr "depth") = some (.int D.depth)
  v4 : valV kvs (Sum.inr "names") = some (.ref lf)
  v5 : valV kvs (Sum.inr "places") = some (.ref lp)
  v6 : valV kvs (Sum.inr "marks") = some (.ref lm)
  v7 : valV kvs (Sum.inr "kinds") = some (.ref lk)
  v8 : valV kvs (Sum.inr "gate") = some (.ref lg)
  ef : H lf = some (.lst (strsV fn))
  ep : H lp = some (.lst (strsV D.places))
  em : H lm = some (.lst (strsV D.marks))
  eg : H lg = some (.lst (strsV D.gates))
  ek : H lk = some (.lst ks)
  kd : Paired (fun u (x : Kn) => ∃ p l, u = .ref p ∧ H p = some (.tup [.str x.name, .ref l]) ∧ H l = some (.lst (strsV (x.fs.map (·.2))))) ks D.kinds
theorem KpV.same {H H' : Hp} {d : Addr} {D : Fm} {fn : List Str} {kvs : List (Key × V)} {lf lp lm lk lg : Addr} {ks : List V} (h : KpV H d D fn kvs lf lp lm lk lg ks) (s : Same H H') : KpV H' d D fn kvs lf lp lm lk lg ks :=
  ⟨s _ _ h.dd, h.v1, h.v2, h.v3, h.v4, h.v5, h.v6, h.v7, h.v8, s _ _ h.ef, s _ _ h.ep, s _ _ h.em, s _ _ h.eg, s _ _ h.ek, pmap (fun _ _ ⟨p, l, a, b, c⟩ => ⟨p, l, a, s _ _ b, s _ _ c⟩) h.kd⟩
structure ShOk (D : Fm) (fn : List Str) : Prop where
  w4 : 4 ≤ D.width
  w24 : D.width ≤ 24
  ce : D.cells = 4
  de : D.depth = 0
  fm : FmOk D
  nm : NmS D
  f3 : fn.length = 3
  fS : ∀ z ∈ fn, NameS z
  p1 : 1 ≤ D.places.length
  k1 : 1 ≤ D.kinds.length
  kf : ∀ x ∈ D.kinds, ∃ st, x.fs = fn.zip st ∧ st.length ≤ 3 ∧ ∀ s ∈ st, s ∈ sortL ∧ (s = "mark" → 1 ≤ D.marks.length)
def spShape : Sp := fun vs H Q _ => ∃ p : Addr, vs = [.ref p] ∧ Strm H p ∧ ∀ d H' D fn kvs lf lp lm lk lg ks, But p H H' → KpV H' d D fn kvs lf lp lm lk lg ks → ShOk D fn → Q (.ref d) H'
theorem name_ok {t : List Nat} (h : 1 ≤ t.length ∧ t.length ≤ 8 ∧ t ∉ ownC ∧ ∀ c ∈ t, 97 ≤ c ∧ c ≤ 122) : NameS (S t) := by
  obtain ⟨h1, h2, h3, h4⟩ := h
  refine ⟨fun hm => h3 ?_, by rw [S_len]; exact h1, by rw [S_len]; exact h2, h4⟩
  exact List.mem_map.mpr ⟨_, hm, cp_S t⟩
theorem S_inj {a b : List Nat} (h : S a = S b) : a = b := by
  have := congrArg cp h
  exact this
theorem nodup_S {l : List (List Nat)} (h : l.Nodup) : (l.map S).Nodup := by
  induction h with
  | nil => exact List.nodup_nil
  | cons hx _ ih =>
    refine List.nodup_cons.mpr ⟨fun hm => ?_, ih⟩
    obtain ⟨y, hy, e⟩ := List.mem_map.mp hm
    exact hx y hy (S_inj e).symm
theorem map_fst_zip_le : ∀ (a b : List Str), b.length ≤ a.length → (a.zip b).map (·.1) = a.take b.length
  | _, [], _ => by simp
  | [], _ :: _, h => by simp at h
  | x :: a, y :: b, h => by
    rw [List.zip_cons_cons, List.map_cons, map_fst_zip_le a b (by simpa using h)]
    rfl
theorem map_snd_zip_le : ∀ (a b : List Str), b.length ≤ a.length → (a.zip b).map (·.2) = b
  | _, [], _ => by simp
  | [], _ :: _, h => by simp at h
  | x :: a, y :: b, h => by
    rw [List.zip_cons_cons, List.map_cons, map_snd_zip_le a b (by simpa using h)]
theorem fst_tag (l : List Str) (z : Str) : (l.map fun y => (y, z)).map (·.1) = l := by
  induction l with
  | nil => rfl
  | cons a r ih => rw [List.map_cons, List.map_cons, ih]
theorem sh_ok {W A b g si way fi si2 way2 fi2 m2 : Nat} {kds : List Kn} (hW : 4 ≤ W) (hW2 : W ≤ 24) (hA : 1 ≤ A) (hA4 : A ≤ 4) (hb : b ≤ 3) (hg : g ≤ 1) (h1 : si < 8) (h2 : way < 3) (h3 : fi < 5) (h4 : si2 < 8) (h5 : way2 < 3) (h6 : fi2 < 5) (hm : 1 ≤ m2) (hm8 : m2 ≤ 8)
    (hk : kds.map Kn.name = (nmsC si2 way2 fi2 m2).map S) (hf : ∀ x ∈ kds, ∃ st, x.fs = (((nmsC si way fi (A + b + 3)).drop (A + b)).map S).zip st ∧ st.length ≤ 3 ∧ ∀ s ∈ st, s ∈ sortL ∧ (s = "mark" → 1 ≤ b)) :
    ShOk ⟨W, 4, 0, ((nmsC si way fi (A + b + 3)).take A).map S, (((nmsC si way fi (A + b + 3)).drop A).take b).map S, ((((nmsC si way fi (A + b + 3)).drop A).take b).take g).map S, kds⟩ (((nmsC si way fi (A + b + 3)).drop (A + b)).map S) := by
  obtain ⟨nd, gd⟩ := nms_good h1 h2 h3
  obtain ⟨nd2, gd2⟩ := nms_good h4 h5 h6
  have e1 := nms_take (si := si) (way := way) (fi := fi) (m := A + b + 3) (by omega)
  have e2 := nms_take (si := si2) (way := way2) (fi := fi2) (m := m2) (by omega)
  have hl : (nmsC si way fi (A + b + 3)).length = A + b + 3 := by unfold nmsC; rw [List.length_map, List.length_range]
  have hl2 : (nmsC si2 way2 fi2 m2).length = m2 := by unfold nmsC; rw [List.length_map, List.length_range]
  have ndn : (nmsC si way fi (A + b + 3)).Nodup := by rw [e1]; exact nd.sublist (List.take_sublist _ _)
  have gdn : ∀ t ∈ nmsC si way fi (A + b + 3), NameS (S t) := fun t ht => name_ok (gd t (by rw [e1] at ht; exact List.mem_of_mem_take ht))
  have ndn2 : (nmsC si2 way2 fi2 m2).Nodup := by rw [e2]; exact nd2.sublist (List.take_sublist _ _)
  have gdn2 : ∀ t ∈ nmsC si2 way2 fi2 m2, NameS (S t) := fun t ht => name_ok (gd2 t (by rw [e2] at ht; exact List.mem_of_mem_take ht))
  clear e1 e2 nd gd nd2 gd2 h1 h2 h3 h4 h5 h6
  generalize nmsC si way fi (A + b + 3) = nm at *
  generalize nmsC si2 way2 fi2 m2 = nm2 at *
  have lk : kds.length = m2 := by
    have := congrArg List.length hk
    rw [List.length_map, List.length_map, hl2] at this
    exact this
  have cat : nm.take A ++ (nm.drop A).take b = nm.take (A + b) := by rw [List.take_add]
  have sub : ∀ n, (nm.take A ++ (nm.drop A).take b) ++ (nm.drop (A + b)).take n = nm.take (A + b + n) := fun n => by rw [cat, ← List.take_add]
  have nds : ∀ n, ((nm.take (A + b + n)).map S).Nodup := fun n => nodup_S (ndn.sublist (List.take_sublist _ _))
  refine ⟨hW, hW2, rfl, rfl, ⟨?_, ?_, ?_, ?_, ?_, ?_, ?_, ?_⟩, ⟨?_, ?_, ?_⟩, ?_, ?_, ?_, ?_, ?_⟩
  · unfold nmsD
    rw [List.map_append, fst_tag, fst_tag, ← List.map_append, cat]
    exact nds 0
  · intro z hz
    obtain ⟨t, ht, rfl⟩ := List.mem_map.mp hz
    exact List.mem_map.mpr ⟨t, List.mem_of_mem_take ht, rfl⟩
  · show (List.map S _).length ≤ 1
    rw [List.length_map, List.length_take]
    omega
  · show (List.map Kn.name kds).Nodup
    rw [hk]
    exact nodup_S ndn2
  · intro x hx
    obtain ⟨st, e, l3, _⟩ := hf x hx
    have lf : ((nm.drop (A + b)).map S).length = 3 := by rw [List.length_map, List.length_drop, hl]; omega
    refine ⟨?_, ?_⟩
    · unfold nmsD
      rw [List.map_append, List.map_append, fst_tag, fst_tag, e, map_fst_zip_le _ _ (by omega), ← List.map_take, ← List.map_append, ← List.map_append, sub]
      exact nds _
    · rw [e, List.length_zip]
      omega
  · show (List.map S _).length ≤ 4
    rw [List.length_map, List.length_take]
    omega
  · show (List.map S _).length ≤ 3
    rw [List.length_map, List.length_take]
    omega
  · show kds.length ≤ 8
    omega
  · intro z hz
    obtain ⟨t, ht, rfl⟩ := List.mem_map.mp hz
    exact gdn t (List.mem_of_mem_take ht)
  · intro z hz
    obtain ⟨t, ht, rfl⟩ := List.mem_map.mp hz
    exact gdn t (List.mem_of_mem_drop (List.mem_of_mem_take ht))
  · intro x hx
    have : x.name ∈ kds.map Kn.name := List.mem_map.mpr ⟨x, hx, rfl⟩
    rw [hk] at this
    obtain ⟨t, ht, e⟩ := List.mem_map.mp this
    rw [← e]
    exact gdn2 t ht
  · rw [List.length_map, List.length_drop, hl]
    omega
  · intro z hz
    obtain ⟨t, ht, rfl⟩ := List.mem_map.mp hz
    exact gdn t (List.mem_of_mem_drop ht)
  · show 1 ≤ (List.map S _).length
    rw [List.length_map, List.length_take]
    omega
  · show 1 ≤ kds.length
    omega
  · intro x hx
    obtain ⟨st, e, l3, hs⟩ := hf x hx
    refine ⟨st, e, l3, fun s h => ⟨(hs s h).1, fun em => ?_⟩⟩
    have := (hs s h).2 em
    show 1 ≤ (List.map S _).length
    rw [List.length_map, List.length_take, List.length_drop]
    omega
end L3
namespace L3
open PySem L2
theorem kmany_at {r : Nat} (h : r < 4) : ([V.int 1, .int 2, .int 3, .int 8] : List V)[r]? = some (.int (([1, 2, 3, 8] : List Nat).getD r 0 : Nat)) := by
  match r, h with
  | 0, _ => rfl
  | 1, _ => rfl
  | 2, _ => rfl
  | 3, _ => rfl
theorem kmany_b {r : Nat} (h : r < 4) : 1 ≤ ([1, 2, 3, 8] : List Nat).getD r 0 ∧ ([1, 2, 3, 8] : List Nat).getD r 0 ≤ 8 := by
  match r, h with
  | 0, _ => decide
  | 1, _ => decide
  | 2, _ => decide
  | 3, _ => decide
def srt4 : List Str := ["place", "number", "row", "mark"]
def srtN (b : Nat) : Nat := 3 + if 0 < b then 1 else 0
theorem srt_int (b : Nat) : (3 + (if decide ((b : Int) > 0) = true then 1 else 0) : Int) = (srtN b : Nat) := by
  unfold srtN
  by_cases h : 0 < b
  · rw [if_pos h, if_pos (decide_eq_true (by omega))]
    rfl
  · rw [if_neg h, if_neg (by simp; omega)]
    rfl
theorem srt_mem {b : Nat} {s : Str} (h : s ∈ srt4.take (srtN b)) : s ∈ sortL ∧ (s = "mark" → 1 ≤ b) := by
  unfold srtN at h
  by_cases hb : 0 < b
  · refine ⟨?_, fun _ => hb⟩
    have : s ∈ srt4 := List.mem_of_mem_take h
    revert this
    show s ∈ (["place", "number", "row", "mark"] : List Str) → s ∈ (["place", "mark", "number", "row"] : List Str)
    intro hm
    simp only [List.mem_cons, List.not_mem_nil, or_false] at hm ⊢
    rcases hm with h | h | h | h <;> simp [h]
  · rw [if_neg hb] at h
    have h' : s ∈ (["place", "number", "row"] : List Str) := h
    simp only [List.mem_cons, List.not_mem_nil, or_false] at h'
    refine ⟨?_, fun em => ?_⟩
    · show s ∈ (["place", "mark", "number", "row"] : List Str)
      simp only [List.mem_cons, List.not_mem_nil, or_false]
      rcases h' with h | h | h <;> simp [h]
    · rw [em] at h'
      exact absurd h' (by decide +kernel)
theorem srt_len (b : Nat) : (srt4.take (srtN b)).length = srtN b ∧ 3 ≤ srtN b ∧ srtN b ≤ 4 := by
  unfold srtN
  by_cases h : 0 < b
  · rw [if_pos h]; exact ⟨rfl, by decide, by decide⟩
  · rw [if_neg h]; exact ⟨rfl, by decide, by decide⟩
theorem ne_ld {H : Hp} {x d : Addr} {l : List V} {k : List (Key × V)} (h : H x = some (.lst l)) (h' : H d = some (.dK k)) : x ≠ d := by
  rintro rfl
  rw [h] at h'
  cases h'
theorem ne_fr {H : Hp} {x y : Addr} {o : HO} (h : H x = some o) (n : H y = none) : x ≠ y := ne_of_none h n
abbrev kS (z : Str) : Key := Sum.inr z
theorem mg4 (va vb vc vd : V) : ∃ kv, mergeK [] [(kS "width", va), (kS "cells", vb), (kS "depth", vc), (kS "names", vd)] = kv ∧ kv.length ≤ 4 ∧ valV kv (kS "width") = some va ∧ valV kv (kS "cells") = some vb ∧ valV kv (kS "depth") = some vc ∧ valV kv (kS "names") = some vd := by
  refine ⟨_, rfl, length_mergeK _ _, ?_, ?_, ?_, ?_⟩
  · show valV (putK (putK (putK (putK [] (kS "width") va) (kS "cells") vb) (kS "depth") vc) (kS "names") vd) _ = _
    rw [put_ne (by decide +kernel), put_ne (by decide +kernel), put_ne (by decide +kernel), put_eq]
  · show valV (putK (putK (putK (putK [] (kS "width") va) (kS "cells") vb) (kS "depth") vc) (kS "names") vd) _ = _
    rw [put_ne (by decide +kernel), put_ne (by decide +kernel), put_eq]
  · show valV (putK (putK (putK (putK [] (kS "width") va) (kS "cells") vb) (kS "depth") vc) (kS "names") vd) _ = _
    rw [put_ne (by decide +kernel), put_eq]
  · show valV (putK (putK (putK (putK [] (kS "width") va) (kS "cells") vb) (kS "depth") vc) (kS "names") vd) _ = _
    rw [put_eq]
theorem mg3 (kv0 : List (Key × V)) (va vb vc : V) : ∃ kv, mergeK kv0 (mergeK [] [(kS "places", va), (kS "marks", vb), (kS "kinds", vc)]) = kv ∧ kv.length ≤ kv0.length + 3 ∧ valV kv (kS "places") = some va ∧ valV kv (kS "marks") = some vb ∧ valV kv (kS "kinds") = some vc ∧
    valV kv (kS "width") = valV kv0 (kS "width") ∧ valV kv (kS "cells") = valV kv0 (kS "cells") ∧ valV kv (kS "depth") = valV kv0 (kS "depth") ∧ valV kv (kS "names") = valV kv0 (kS "names") := by
  have e1 : mergeK [] [(kS "places", va), (kS "marks", vb), (kS "kinds", vc)] = ([(kS "places", va), (kS "marks", vb), (kS "kinds", vc)] : List (Key × V)) := by
    show putK (putK (putK [] (kS "places") va) (kS "marks") vb) (kS "kinds") vc = _
    have h1 : putK ([] : List (Key × V)) (kS "places") va = [(kS "places", va)] := putK_new _ rfl
    have h2 : putK [(kS "places", va)] (kS "marks") vb = [(kS "places", va), (kS "marks", vb)] := putK_new _ (by rw [valV_neg (by show ¬ kS "places" = _; decide +kernel)]; rfl)
    rw [h1, h2]
    exact putK_new _ (by rw [valV_neg (by show ¬ kS "places" = _; decide +kernel), valV_neg (by show ¬ kS "marks" = _; decide +kernel)]; rfl)
  rw [e1]
  have e2 : mergeK kv0 [(kS "places", va), (kS "marks", vb), (kS "kinds", vc)] = putK (putK (putK kv0 (kS "places") va) (kS "marks") vb) (kS "kinds") vc := rfl
  refine ⟨_, rfl, length_mergeK _ _, ?_, ?_, ?_, ?_, ?_, ?_, ?_⟩
  · rw [e2, put_ne (by decide +kernel), put_ne (by decide +kernel), put_eq]
  · rw [e2, put_ne (by decide +kernel), put_eq]
  · rw [e2, put_eq]
  · rw [e2, put_ne (by decide +kernel), put_ne (by decide +kernel), put_ne (by decide +kernel)]
  · rw [e2, put_ne (by decide +kernel), put_ne (by decide +kernel), put_ne (by decide +kernel)]
  · rw [e2, put_ne (by decide +kernel), put_ne (by decide +kernel), put_ne (by decide +kernel)]
  · rw [e2, put_ne (by decide +kernel), put_ne (by decide +kernel), put_ne (by decide +kernel)]
theorem dgetS {l : List Str} {i : Nat} (h : i < l.length) : (strsV l)[i]? = some (.str l[i]) := by unfold strsV; rw [List.getElem?_map, List.getElem?_eq_getElem h]; rfl
section
variable {P : Program} {w : World} {K : PySem.W.Frag} {mg : Str → Option Value} {base : Heap} {C Cp : Addr} {tb tm : Tok}
theorem scShape : FnScope ["_law_stream_here", "_law_many", "_law_names_here", "_law_table", "_law_name", "_law_sorts"] ["_law_stream_here"] (defScope sShape) := ⟨rfl, rfl, rfl, by decide +kernel, rfl, by decide +kernel, by decide +kernel⟩
theorem ndKS : (["_law_k", "_law_sorts", "_law_stream_here"] : List Str).Nodup := by decide +kernel
set_option maxHeartbeats 16000000 in
theorem ok_shape {f : Addr} {fd : FuncData} (F : Fun K "_law_shape" "_law_shape" sShape f fd) (B : Bl mg) (TK' : Fn P w K mg base "_law_take" 1 ["_law_stream_here", "_law_many"] spTake) (LN : Fn P w K mg base "_law_names" 2 ["_law_stream_here", "_law_many"] spLNames) : FnOk P w K mg base CX0 3 f fd ["_law_stream_here"] spShape := by
  refine F.ok scShape (fun vs H Q E h => ?_) (fun cdv A outer s H vs Q E hr h => ?_)
  · obtain ⟨p, rfl, _⟩ := h
    rfl
  · obtain ⟨p, rfl, hp, q⟩ := h
    have sz : (100000 : Nat) ≤ sizeLine := by decide
    have hu := hu_of hr
    have hr1 : Room 1 _ := hr.mono (by decide)
    refine ⟨_, pss_cut (fun σ H' => ∃ (lmn : Addr) (A b : Nat), σ = [some (.ref p), some (.ref lmn), none, none, none, none] ∧ Strm H' p ∧ But p H H' ∧ H' lmn = some (.lst [.int (A : Nat), .int (b : Nat)]) ∧ p ≠ lmn ∧ 1 ≤ A ∧ A ≤ 4 ∧ b ≤ 3) (ps_set (i := 1) scShape.nd rfl (Or.inl rfl) (pe_lst (pa_cons (pe_op op_add pe_int (pe_fn TK' hr1 rfl (pa_cons (pv 0) (pa_cons pe_int pa_nil)))) (pa_cons (pe_fn TK' hr1 rfl (pa_cons (pv 0) (pa_cons pe_int pa_nil))) pa_nil))))
      (pss_cons (ps_set (i := 2) scShape.nd rfl (Or.inl rfl) (pe_fn LN hr rfl (pa_cons (pv 0) (pa_cons (pe_op op_add (pe_op op_add (pe_ix ix_list (pv 1) pe_int (fun _ _ => rfl)) (pe_ix ix_list (pv 1) pe_int (fun _ _ => rfl))) pe_int) pa_nil))))
      (pss_cons (ps_set (i := 3) scShape.nd rfl (Or.inl rfl) (pe_disp (pps_cons pe_str (pe_op op_add pe_int (pe_fn TK' hr1 rfl (pa_cons (pv 0) (pa_cons pe_int pa_nil)))) (pps_cons pe_str pe_int (pps_cons pe_str pe_int (pps_cons pe_str (pe_slice sl_list (pv 2) (po_some (pe_op op_add (pe_ix ix_list (pv 1) pe_int (fun _ _ => rfl)) (pe_ix ix_list (pv 1) pe_int (fun _ _ => rfl)))) po_none) pps_nil)))) rfl rfl (by intro z; cases z) (by show 4 ≤ 15; decide)))
      (pss_cons (ps_expr (pe_dupd (pv 3) (pe_disp (pps_cons pe_str (pe_slice sl_list (pv 2) po_none (po_some (pe_ix ix_list (pv 1) pe_int (fun _ _ => rfl)))) (pps_cons pe_str (pe_slice sl_list (pv 2) (po_some (pe_ix ix_list (pv 1) pe_int (fun _ _ => rfl))) (po_some (pe_op op_add (pe_ix ix_list (pv 1) pe_int (fun _ _ => rfl)) (pe_ix ix_list (pv 1) pe_int (fun _ _ => rfl))))) (pps_cons pe_str (pe_lst pa_nil) pps_nil))) rfl rfl (by intro z; cases z) (by show 3 ≤ 15; decide)) ⟨rfl, rfl, rfl, rfl⟩))
      (pss_cons (ps_dput hu (pv 3) pe_str (pe_slice sl_list (pe_dget hu (pv 3) pe_str (fun _ _ => rfl)) po_none (po_some (pe_fn TK' hr1 rfl (pa_cons (pv 0) (pa_cons pe_int pa_nil))))) rfl)
      (pss_cons (ps_for PassesOwn.never rfl (pi_list (pe_fn LN hr rfl (pa_cons (pv 0) (pa_cons (pe_ix ix_list (pe_lst (pa_cons pe_int (pa_cons pe_int (pa_cons pe_int (pa_cons pe_int pa_nil))))) (pe_fn TK' hr1 rfl (pa_cons (pv 0) (pa_cons pe_int pa_nil))) (fun _ _ => rfl)) pa_nil)))) (pg_name (i := 4) scShape.nd rfl (Or.inl rfl))
        (pss_cons (ps_set (i := 5) scShape.nd rfl (Or.inr rfl) (pe_slice sl_list (pe_lst (pa_cons pe_str (pa_cons pe_str (pa_cons pe_str (pa_cons pe_str pa_nil))))) po_none (po_some (pe_op op_add pe_int (pe_callTy call_int1 (by rfl) B.int PyProof.Rows.boot_int (pa_cons (pe_cmpR op_gt (pe_ix ix_list (pv 1) pe_int (fun _ _ => rfl)) pe_int (nomark _)) pa_nil))))))
        (pss_one (ps_expr (pe_bm PySem.F.plainAttrs_list PySem.F.slot_list_append PySem.F.type_list_append mt_append (pe_dget hu (pv 3) pe_str (fun _ _ => rfl)) (pa_cons (pe_tup (pa_cons (pv 4) (pa_cons (pe_lc (N' := ["_law_k", "_law_sorts", "_law_stream_here"]) (ix := [none, some 5, some 0]) (sc0 := defScope sShape) (N := ["_law_stream_here", "_law_many", "_law_names_here", "_law_table", "_law_name", "_law_sorts"]) rfl (by decide +kernel) (pi_range1 rfl B.range (pa_cons (pe_fn TK' hr1 rfl (pa_cons (pv 0) (pa_cons pe_int pa_nil))) pa_nil))
          (fun C cl s H fp => pg_name (i := 0) ndKS rfl (Or.inl rfl) (.inr rfl)) (fun _ _ _ _ _ => pf_nil) (fun C cl s H fp => pe_ix (ix_listK (K := K) rfl) (pv 1) (pe_fn TK' hr1 rfl (pa_cons (pv 2) (pa_cons (pe_callB (len_seqK (K := K) rfl) (by rfl) B.len PySem.boot_len (pa_cons (pv 1) pa_nil)) pa_nil))) (fun _ _ => rfl))) pa_nil))) pa_nil))))))
      (pss_one (ps_ret (pv 3)))))))), ?_⟩
    refine ⟨?_, ?_⟩
    · rintro σ H1 ⟨lmn, A, b, rfl, g1, b1, mn1, pmn, hA1, hA4, hb3⟩
      refine ⟨_, rfl, _, rfl, lmn, _, _, _, rfl, rfl, SqL.of mn1, atI0, _, rfl, lmn, _, _, _, rfl, rfl, SqL.of mn1, atI1, _, _, rfl, rfl, _, _, rfl, rfl, p, A + b + 3, rfl, g1, by omega, fun ln H2 si way fi hsi hway hfi g2 b2 nln e2 => ?_⟩
      have b02 := b1.trans b2
      have mn2 := b2 _ _ mn1 pmn.symm
      have pln : p ≠ ln := g1.ne nln
      clear b2 g1 b1
      refine fun d nd => ?_
      have s3 := same_new (o := .dK []) nd
      have ed3 : (upd H2 d (.dK [])) d = some (.dK []) := upd_same
      have g3 := g2.same s3
      have pd : p ≠ d := g2.ne nd
      have dH : H d = none := free_b b02 g2 nd
      have e3 := s3 _ _ e2
      have mn3 := s3 _ _ mn2
      have b03 := b02.same s3
      generalize upd H2 d (.dK ([] : List (Key × V))) = H3 at *
      refine ⟨_, rfl, p, 21, rfl, g3, by decide, by decide, fun w0 H4 hw0 g4 b4 => ?_⟩
      have ed4 := b4 _ _ ed3 pd.symm
      have e4 := b4 _ _ e3 pln.symm
      have mn4 := b4 _ _ mn3 pmn.symm
      have b04 := b03.trans b4
      refine ⟨_, _, rfl, rfl, _, rfl, _, rfl, lmn, _, _, _, rfl, rfl, SqL.of mn4, atI0, _, rfl, lmn, _, _, _, rfl, rfl, SqL.of mn4, atI1, _, _, rfl, rfl, ((A + b : Nat) : Int), rfl, ln, _, rfl, SqL.of e4, fun lf nlf => ?_⟩
      rw [cut_lo, txV_drop]
      have s5 := same_new (o := .lst (txV ((nmsC si way fi (A + b + 3)).drop (A + b)))) nlf
      have elf5 : (upd H4 lf (.lst (txV ((nmsC si way fi (A + b + 3)).drop (A + b))))) lf = some (.lst (txV ((nmsC si way fi (A + b + 3)).drop (A + b)))) := upd_same
      have plf : p ≠ lf := g4.ne nlf
      have g5 := g4.same s5
      have ed5 := s5 _ _ ed4
      have e5 := s5 _ _ e4
      have mn5 := s5 _ _ mn4
      have b05 := b04.same s5
      generalize upd H4 lf (.lst (txV ((nmsC si way fi (A + b + 3)).drop (A + b)))) = H5 at *
      obtain ⟨kv6, ek6, lk6, w1, w2, w3, w4⟩ := mg4 (.int ((4 + w0 : Nat) : Int)) (.int 4) (.int 0) (.ref lf)
      refine ⟨ed5, [(Sum.inr "width", .int ((4 + w0 : Nat) : Int)), (Sum.inr "cells", .int 4), (Sum.inr "depth", .int 0), (Sum.inr "names", .ref lf)], rfl, by show 4 ≤ 15; decide, ?_⟩
      rw [ek6]
      have ed6 : (upd H5 d (.dK kv6)) d = some (.dK kv6) := upd_same
      have k6 : ∀ x l, H5 x = some (.lst l) → (upd H5 d (.dK kv6)) x = some (.lst l) := fun x l h => by rw [upd_ne (ne_ld h ed5)]; exact h
      have g6 : Strm (upd H5 d (.dK kv6)) p := let ⟨x, y, z, e⟩ := g5; ⟨x, y, z, k6 _ _ e⟩
      have b06 : But p H (upd H5 d (.dK kv6)) := fun b o e nb => by rw [upd_ne (ne_of_none e dH)]; exact b05 b o e nb
      have e6 := k6 _ _ e5
      have mn6 := k6 _ _ mn5
      have elf6 := k6 _ _ elf5
      generalize upd H5 d (.dK kv6) = H6 at *
      clear g5 g4 g3 g2 ed5 ed4 ed3 e5 e4 e3 e2 mn5 mn4 mn3 mn2 mn1 elf5 b05 b04 b03 b02 s5 s3 b4 nd nlf
      refine ⟨_, rfl, d, rfl, .inl ⟨_, .inl ed6⟩, fun d2 nd2 => ?_⟩
      have dd2 : d ≠ d2 := ne_fr ed6 nd2
      have dH2 : H d2 = none := free_b b06 g6 nd2
      have s7 := same_new (o := .dK []) nd2
      have e2d7 : (upd H6 d2 (.dK [])) d2 = some (.dK []) := upd_same
      have ed7 := s7 _ _ ed6
      have e7 := s7 _ _ e6
      have mn7 := s7 _ _ mn6
      have elf7 := s7 _ _ elf6
      have g7 := g6.same s7
      have b07 := b06.same s7
      generalize upd H6 d2 (.dK ([] : List (Key × V))) = H7 at *
      refine ⟨_, rfl, _, rfl, lmn, _, _, _, rfl, rfl, SqL.of mn7, atI0, (A : Int), rfl, ln, _, rfl, SqL.of e7, fun lp nlp => ?_⟩
      rw [cut_hi, txV_take]
      have s8 := same_new (o := .lst (txV ((nmsC si way fi (A + b + 3)).take A))) nlp
      have elp8 : (upd H7 lp (.lst (txV ((nmsC si way fi (A + b + 3)).take A)))) lp = some (.lst (txV ((nmsC si way fi (A + b + 3)).take A))) := upd_same
      have plp := g7.ne nlp
      have ed8 := s8 _ _ ed7
      have e2d8 := s8 _ _ e2d7
      have e8 := s8 _ _ e7
      have mn8 := s8 _ _ mn7
      have elf8 := s8 _ _ elf7
      have g8 := g7.same s8
      have b08 := b07.same s8
      generalize upd H7 lp (.lst (txV ((nmsC si way fi (A + b + 3)).take A))) = H8 at *
      refine ⟨_, rfl, _, rfl, lmn, _, _, _, rfl, rfl, SqL.of mn8, atI0, (A : Int), rfl, _, rfl, lmn, _, _, _, rfl, rfl, SqL.of mn8, atI0, _, rfl, lmn, _, _, _, rfl, rfl, SqL.of mn8, atI1, _, _, rfl, rfl, ((A + b : Nat) : Int), rfl, ln, _, rfl, SqL.of e8, fun lm nlm => ?_⟩
      have hnl : (txV (nmsC si way fi (A + b + 3))).length = A + b + 3 := by unfold txV nmsC; rw [List.length_map, List.length_map, List.length_range]
      rw [cut_lh _ A b (by omega), txV_drop, txV_take]
      have s9 := same_new (o := .lst (txV (((nmsC si way fi (A + b + 3)).drop A).take b))) nlm
      have elm9 : (upd H8 lm (.lst (txV (((nmsC si way fi (A + b + 3)).drop A).take b)))) lm = some (.lst (txV (((nmsC si way fi (A + b + 3)).drop A).take b))) := upd_same
      have plm := g8.ne nlm
      have ed9 := s9 _ _ ed8
      have e2d9 := s9 _ _ e2d8
      have mn9 := s9 _ _ mn8
      have elf9 := s9 _ _ elf8
      have elp9 := s9 _ _ elp8
      have g9 := g8.same s9
      have b09 := b08.same s9
      generalize upd H8 lm (.lst (txV (((nmsC si way fi (A + b + 3)).drop A).take b))) = H9 at *
      refine ⟨by show 0 ≤ sizeLine; decide, fun lk nlk => ?_⟩
      have s10 := same_new (o := .lst []) nlk
      have elk10 : (upd H9 lk (.lst [])) lk = some (.lst []) := upd_same
      have plk := g9.ne nlk
      have lkH : H lk = none := free_b b09 g9 nlk
      have nk1 : lmn ≠ lk := ne_fr mn9 nlk
      have nk2 : lf ≠ lk := ne_fr elf9 nlk
      have nk3 : lp ≠ lk := ne_fr elp9 nlk
      have nk4 : lm ≠ lk := ne_fr elm9 nlk
      have nk5 : d ≠ lk := ne_fr ed9 nlk
      have ed10 := s10 _ _ ed9
      have e2d10 := s10 _ _ e2d9
      have mn10 := s10 _ _ mn9
      have elf10 := s10 _ _ elf9
      have elp10 := s10 _ _ elp9
      have elm10 := s10 _ _ elm9
      have g10 := g9.same s10
      have b010 := b09.same s10
      generalize upd H9 lk (.lst ([] : List V)) = H10 at *
      clear g9 g8 g7 g6 ed9 ed8 ed7 ed6 e2d9 e2d8 e2d7 e8 e7 e6 mn9 mn8 mn7 mn6 elf9 elf8 elf7 elf6 elp9 elp8 elm9 b09 b08 b07 b06 s10 s9 s8 s7 nlk nlm nlp nd2
      obtain ⟨kv12, ek12, lk12, w5, w6, w7, w1', w2', w3', w4'⟩ := mg3 kv6 (.ref lp) (.ref lm) (.ref lk)
      rw [w1] at w1'
      rw [w2] at w2'
      rw [w3] at w3'
      rw [w4] at w4'
      refine ⟨e2d10, [(Sum.inr "places", .ref lp), (Sum.inr "marks", .ref lm), (Sum.inr "kinds", .ref lk)], rfl, by show 3 ≤ 15; decide, d2, kv6, mergeK [] [(Sum.inr "places", .ref lp), (Sum.inr "marks", .ref lm), (Sum.inr "kinds", .ref lk)], rfl, dd2, by rw [upd_ne dd2]; exact ed10, upd_same, ?_, ?_⟩
      · have := length_mergeK [((Sum.inr "places" : Key), V.ref lp), (Sum.inr "marks", .ref lm), (Sum.inr "kinds", .ref lk)] []
        simp only [List.length_cons, List.length_nil] at this
        omega
      rw [ek12]
      generalize hmore : mergeK [] [((Sum.inr "places" : Key), V.ref lp), (Sum.inr "marks", .ref lm), (Sum.inr "kinds", .ref lk)] = more
      have ed12 : (upd (upd H10 d2 (.dK more)) d (.dK kv12)) d = some (.dK kv12) := upd_same
      have k12 : ∀ x l, H10 x = some (.lst l) → (upd (upd H10 d2 (.dK more)) d (.dK kv12)) x = some (.lst l) := fun x l h => by rw [upd_ne (ne_ld h ed10), upd_ne (ne_ld h e2d10)]; exact h
      have g12 : Strm (upd (upd H10 d2 (.dK more)) d (.dK kv12)) p := let ⟨x, y, z, e⟩ := g10; ⟨x, y, z, k12 _ _ e⟩
      have b012 : But p H (upd (upd H10 d2 (.dK more)) d (.dK kv12)) := fun b o e nb => by rw [upd_ne (ne_of_none e dH), upd_ne (ne_of_none e dH2)]; exact b010 b o e nb
      have mn12 := k12 _ _ mn10
      have elf12 := k12 _ _ elf10
      have elp12 := k12 _ _ elp10
      have elm12 := k12 _ _ elm10
      have elk12 := k12 _ _ elk10
      generalize upd (upd H10 d2 (.dK more)) d (.dK kv12) = H12 at *
      clear g10 mn10 elf10 elp10 elm10 elk10 k12 b010 ed10 e2d10 k6
      refine ⟨_, rfl, d, _, rfl, dget_of ed12 w6, _, rfl, p, 2, rfl, g12, by decide, by decide, fun gt H13 hgt g13 b13 => ⟨(gt : Int), rfl, lm, _, rfl, SqL.of (b13 _ _ elm12 plm.symm), fun lg nlg => ?_⟩⟩
      rw [cut_hi, txV_take]
      have ed13 := b13 _ _ ed12 pd.symm
      have mn13 := b13 _ _ mn12 pmn.symm
      have elf13 := b13 _ _ elf12 plf.symm
      have elp13 := b13 _ _ elp12 plp.symm
      have elm13 := b13 _ _ elm12 plm.symm
      have elk13 := b13 _ _ elk12 plk.symm
      have b013 := b012.trans b13
      have s14 := same_new (o := .lst (txV ((((nmsC si way fi (A + b + 3)).drop A).take b).take gt))) nlg
      have elg14 : (upd H13 lg (.lst (txV ((((nmsC si way fi (A + b + 3)).drop A).take b).take gt)))) lg = some (.lst (txV ((((nmsC si way fi (A + b + 3)).drop A).take b).take gt))) := upd_same
      have plg := g13.ne nlg
      have nk6 : lg ≠ lk := (ne_fr elk13 nlg).symm
      have ed14 := s14 _ _ ed13
      have mn14 := s14 _ _ mn13
      have elf14 := s14 _ _ elf13
      have elp14 := s14 _ _ elp13
      have elm14 := s14 _ _ elm13
      have elk14 := s14 _ _ elk13
      have g14 := g13.same s14
      have b014 := b013.same s14
      generalize upd H13 lg (.lst (txV ((((nmsC si way fi (A + b + 3)).drop A).take b).take gt))) = H14 at *
      refine ⟨_, rfl, d, _, rfl, DPut.k (k := Sum.inr "gate") ed14 (by omega), ?_⟩
      have w8 : valV (putK kv12 (Sum.inr "gate") (.ref lg)) (Sum.inr "gate") = some (.ref lg) := put_eq
      have u1 : valV (putK kv12 (Sum.inr "gate") (.ref lg)) (Sum.inr "width") = some (.int ((4 + w0 : Nat) : Int)) := by rw [put_ne (by decide +kernel)]; exact w1'
      have u2 : valV (putK kv12 (Sum.inr "gate") (.ref lg)) (Sum.inr "cells") = some (.int 4) := by rw [put_ne (by decide +kernel)]; exact w2'
      have u3 : valV (putK kv12 (Sum.inr "gate") (.ref lg)) (Sum.inr "depth") = some (.int 0) := by rw [put_ne (by decide +kernel)]; exact w3'
      have u4 : valV (putK kv12 (Sum.inr "gate") (.ref lg)) (Sum.inr "names") = some (.ref lf) := by rw [put_ne (by decide +kernel)]; exact w4'
      have u5 : valV (putK kv12 (Sum.inr "gate") (.ref lg)) (Sum.inr "places") = some (.ref lp) := by rw [put_ne (by decide +kernel)]; exact w5
      have u6 : valV (putK kv12 (Sum.inr "gate") (.ref lg)) (Sum.inr "marks") = some (.ref lm) := by rw [put_ne (by decide +kernel)]; exact w6
      have u7 : valV (putK kv12 (Sum.inr "gate") (.ref lg)) (Sum.inr "kinds") = some (.ref lk) := by rw [put_ne (by decide +kernel)]; exact w7
      generalize putK kv12 (Sum.inr "gate") (.ref lg) = kv15 at *
      have ed15 : (upd H14 d (.dK kv15)) d = some (.dK kv15) := upd_same
      have k15 : ∀ x l, H14 x = some (.lst l) → (upd H14 d (.dK kv15)) x = some (.lst l) := fun x l h => by rw [upd_ne (ne_ld h ed14)]; exact h
      have g15 : Strm (upd H14 d (.dK kv15)) p := let ⟨x, y, z, e⟩ := g14; ⟨x, y, z, k15 _ _ e⟩
      have b015 : But p H (upd H14 d (.dK kv15)) := fun b o e nb => by rw [upd_ne (ne_of_none e dH)]; exact b014 b o e nb
      have mn15 := k15 _ _ mn14
      have elf15 := k15 _ _ elf14
      have elp15 := k15 _ _ elp14
      have elm15 := k15 _ _ elm14
      have elk15 := k15 _ _ elk14
      have elg15 := k15 _ _ elg14
      generalize upd H14 d (.dK kv15) = H15 at *
      clear g14 g13 g12 ed14 ed13 ed12 mn14 mn13 mn12 elf14 elf13 elf12 elp14 elp13 elp12 elm14 elm13 elm12 elk14 elk13 elk12 elg14 k15 b014 b013 b012 s14 nlg b13
      refine ⟨_, rfl, by show 4 ≤ sizeLine; decide, fun l4 n4 => ?_⟩
      have s16 := same_new (o := .lst [.int 1, .int 2, .int 3, .int 8]) n4
      have e16 : (upd H15 l4 (.lst [.int 1, .int 2, .int 3, .int 8])) l4 = some (.lst [.int 1, .int 2, .int 3, .int 8]) := upd_same
      have p4 := g15.ne n4
      have g16 := g15.same s16
      generalize upd H15 l4 (.lst [V.int 1, .int 2, .int 3, .int 8]) = H16 at *
      refine ⟨_, rfl, p, 4, rfl, g16, by decide, by decide, fun rk H17 hrk g17 b17 => ?_⟩
      obtain ⟨km1, km8⟩ := kmany_b hrk
      refine ⟨l4, _, _, _, rfl, rfl, SqL.of (b17 _ _ e16 p4.symm), atI_nat (kmany_at hrk), p, _, rfl, g17, by omega, fun lns H18 si2 way2 fi2 hsi2 hway2 hfi2 g18 b18 nlns elns => ?_⟩
      have b1518 : But p H15 H18 := (but_of s16).trans (b17.trans b18)
      have b018 := b015.trans b1518
      have plns : p ≠ lns := g17.ne nlns
      have ed := b1518 _ _ ed15 pd.symm
      have mn := b1518 _ _ mn15 pmn.symm
      have elf := b1518 _ _ elf15 plf.symm
      have elp := b1518 _ _ elp15 plp.symm
      have elm := b1518 _ _ elm15 plm.symm
      have elk := b1518 _ _ elk15 plk.symm
      have elg := b1518 _ _ elg15 plg.symm
      have nk7 : lns ≠ lk := by
        rintro rfl
        have := b17 _ _ (s16 _ _ elk15) plk.symm
        rw [nlns] at this
        cases this
      generalize hm2 : ([1, 2, 3, 8] : List Nat).getD rk 0 = m2 at *
      clear g15 g16 g17 ed15 mn15 elf15 elp15 elm15 elk15 elg15 b015 s16 e16 b17 b18 b1518 n4 p4 nlns
      have lnm2 : (txV (nmsC si2 way2 fi2 m2)).length = m2 := by unfold txV nmsC; rw [List.length_map, List.length_map, List.length_range]
      refine ⟨lns, rfl, ⟨_, SqL.of elns⟩, ?_⟩
      refine for_list (K := K) (a := lns) (xs := txV (nmsC si2 way2 fi2 m2)) (fun i σ H' => ∃ (v4 v5 : Option V) (ks : List V) (kds : List Kn), σ = [some (.ref p), some (.ref lmn), some (.ref ln), some (.ref d), v4, v5] ∧ Strm H' p ∧ (∀ x o, H18 x = some o → x ≠ p → x ≠ lk → H' x = some o) ∧ H' lk = some (.lst ks) ∧ ks.length = i ∧
          Paired (fun u (x : Kn) => ∃ pt l, u = .ref pt ∧ H' pt = some (.tup [.str x.name, .ref l]) ∧ H' l = some (.lst (strsV (x.fs.map (·.2)))) ∧ pt ≠ p ∧ pt ≠ lk ∧ l ≠ p ∧ l ≠ lk) ks kds ∧ kds.map Kn.name = ((nmsC si2 way2 fi2 m2).take i).map S ∧ ∀ x ∈ kds, ∃ st, x.fs = (((nmsC si way fi (A + b + 3)).drop (A + b)).map S).zip st ∧ st.length ≤ 3 ∧ ∀ s ∈ st, s ∈ sortL ∧ (s = "mark" → 1 ≤ b))
        ⟨_, _, [], [], rfl, g18, fun x o e _ _ => e, elk, rfl, .nil, rfl, fun _ z => nomatch z⟩ (fun i σ H' _ ⟨_, _, _, _, _, _, kp, _⟩ => SqL.of (kp _ _ elns plns.symm nk7)) ?_ ?_
      · rintro i x σ Ha hx ⟨v4, v5, ks, kds, rfl, ga, kpa, eka, lka, hka, hna, hsa⟩
        obtain ⟨t, ht, rfl⟩ : ∃ t, (nmsC si2 way2 fi2 m2)[i]? = some t ∧ x = .str (S t) := by
          unfold txV at hx
          rw [List.getElem?_map] at hx
          cases e : (nmsC si2 way2 fi2 m2)[i]? with
          | none => rw [e] at hx; cases hx
          | some g => rw [e] at hx; exact ⟨g, rfl, (Option.some.inj hx).symm⟩
        have hi8 : i < m2 := by
          have := (List.getElem?_eq_some_iff.mp hx).1
          omega
        have mna := kpa _ _ mn pmn.symm nk1
        have eda := kpa _ _ ed pd.symm nk5
        refine ⟨by show 4 ≤ sizeLine; decide, fun l5 n5 => ?_⟩
        have sb := same_new (o := .lst (strsV srt4)) n5
        have e5 : (upd Ha l5 (.lst [V.str "place", .str "number", .str "row", .str "mark"])) l5 = some (.lst [V.str "place", .str "number", .str "row", .str "mark"]) := upd_same
        have mnb := sb _ _ mna
        have gb := ga.same sb
        have ekb := sb _ _ eka
        have edb := sb _ _ eda
        refine ⟨_, rfl, lmn, _, _, _, rfl, rfl, SqL.of mnb, atI1, _, _, rfl, rfl, .inr ⟨_, rfl, _, _, rfl, rfl, ((srtN b : Nat) : Int), congrArg V.int (srt_int b), l5, _, rfl, SqL.of e5, fun ls nls => ?_⟩⟩
        obtain ⟨sl1, sl2, sl3⟩ := srt_len b
        have ecs : cutV [V.str "place", .str "number", .str "row", .str "mark"] none (some ((srtN b : Nat) : Int)) = strsV (srt4.take (srtN b)) := by
          show cutV (strsV srt4) none (some ((srtN b : Nat) : Int)) = _
          rw [cut_hi]
          unfold strsV
          rw [List.map_take]
        rw [ecs]
        have lss : (strsV (srt4.take (srtN b))).length = srtN b := by unfold strsV; rw [List.length_map, sl1]
        have pls := gb.ne nls
        have nlk : ls ≠ lk := (ne_fr ekb nls).symm
        have sc := same_new (o := .lst (strsV (srt4.take (srtN b)))) nls
        have elsc : (upd (upd Ha l5 (.lst [V.str "place", .str "number", .str "row", .str "mark"])) ls (.lst (strsV (srt4.take (srtN b))))) ls = some (.lst (strsV (srt4.take (srtN b)))) := upd_same
        have sac : Same Ha (upd (upd Ha l5 (.lst [V.str "place", .str "number", .str "row", .str "mark"])) ls (.lst (strsV (srt4.take (srtN b))))) := sb.trans sc
        have gc := gb.same sc
        have ekc := sc _ _ ekb
        have edc := sc _ _ edb
        refine ⟨_, rfl, d, _, rfl, dget_of edc u7, .inl ⟨rfl, _, SqL.of ekc⟩, ?_⟩
        generalize upd (upd Ha l5 (.lst [V.str "place", .str "number", .str "row", .str "mark"])) ls (.lst (strsV (srt4.take (srtN b)))) = Hc at *
        refine ⟨_, rfl, _, rfl, p, 4, rfl, gc, by decide, by decide, fun cnt Hd hcnt gd bd => ⟨_, rfl, by omega, by omega, ?_⟩⟩
        rw [show ((cnt : Int)).toNat = cnt from Int.toNat_natCast cnt]
        refine lc_range (lo := 0) (n := cnt) (fun j ys H' => ∃ st : List Str, Strm H' p ∧ But p Hd H' ∧ ys = strsV st ∧ st.length = j ∧ j ≤ cnt ∧ ∀ s ∈ st, s ∈ srt4.take (srtN b)) ⟨[], gd, But.refl _ _, rfl, rfl, Nat.zero_le _, fun _ z => nomatch z⟩ (fun j ys H' hj ⟨st, _, _, e1, e2, _⟩ => by rw [e1]; unfold strsV; rw [List.length_map]; omega) ?_ ?_
        · rintro j ys He hj ⟨st, ge, be, rfl, lst, hjc, hst⟩
          have else' := be _ _ (bd _ _ elsc pls.symm) pls.symm
          refine ⟨⟨rfl, rfl, trivial⟩, tAny_T ?_⟩
          refine ⟨_, rfl, _, rfl, _, rfl, ls, _, rfl, .inl (SqL.of else'), p, _, rfl, ge, by omega, by omega, fun r Hf hr' gf bf => ?_⟩
          have hrl : r < (srt4.take (srtN b)).length := by omega
          refine ⟨ls, _, _, _, rfl, rfl, SqL.of (bf _ _ else' pls.symm), atI_nat (dgetS hrl), ?_⟩
          refine Nx.mk hj ⟨st ++ [(srt4.take (srtN b))[r]], gf, be.trans bf, by unfold strsV; rw [List.map_append]; rfl, by rw [List.length_append, lst]; rfl, hj, fun s hs => ?_⟩
          rcases List.mem_append.mp hs with h | h
          · exact hst s h
          · rw [List.mem_singleton.mp h]
            exact List.getElem_mem hrl
        rintro ys He ⟨st, ge, be, rfl, lst, hjc, hst⟩ lq nlq
        have bce : But p Hc He := bd.trans be
        have sf := same_new (o := .lst (strsV st)) nlq
        have eqf : (upd He lq (.lst (strsV st))) lq = some (.lst (strsV st)) := upd_same
        have plq := ge.ne nlq
        have gf := ge.same sf
        have ekf := sf _ _ (bce _ _ ekc plk.symm)
        have nlqk : lq ≠ lk := (ne_fr (bce _ _ ekc plk.symm) nlq).symm
        have bcf := bce.same sf
        generalize upd He lq (.lst (strsV st)) = Hf at *
        refine ⟨by show 2 ≤ sizeLine; decide, fun pt npt => ?_⟩
        have sg := same_new (o := .tup [.str (S t), .ref lq]) npt
        have etg : (upd Hf pt (.tup [.str (S t), .ref lq])) pt = some (.tup [.str (S t), .ref lq]) := upd_same
        have ppt := gf.ne npt
        have nptk : pt ≠ lk := (ne_fr ekf npt).symm
        have gg := gf.same sg
        have ekg := sg _ _ ekf
        have eqg := sg _ _ eqf
        have bcg := bcf.same sg
        generalize upd Hf pt (.tup [V.str (S t), .ref lq]) = Hg at *
        refine ⟨lk, ks, _, rfl, rfl, ekg, by omega, ?_⟩
        have fnl : (((nmsC si way fi (A + b + 3)).drop (A + b)).map S).length = 3 := by
          unfold nmsC
          rw [List.length_map, List.length_drop, List.length_map, List.length_range]
          omega
        have stl : st.length ≤ 3 := by omega
        refine ⟨_, _, ks ++ [.ref pt], kds ++ [⟨S t, (((nmsC si way fi (A + b + 3)).drop (A + b)).map S).zip st⟩], rfl, ?_, fun y o e n1 n2 => ?_, upd_same, by simp [lka], ?_, ?_, fun y hy => ?_⟩
        · obtain ⟨x1, y1, z1, e⟩ := gg
          exact ⟨x1, y1, z1, by rw [upd_ne plk]; exact e⟩
        · rw [upd_ne n2]
          exact bcg _ _ (sac _ _ (kpa _ _ e n1 n2)) n1
        · refine psnoc ⟨pt, lq, rfl, by rw [upd_ne nptk]; exact etg, ?_, ppt.symm, nptk, plq.symm, nlqk⟩ (pmap (fun u y ⟨pt', l', e1, e2, e3, n1, n2, n3, n4⟩ => ⟨pt', l', e1, by rw [upd_ne n2]; exact bcg _ _ (sac _ _ e2) n1, by rw [upd_ne n4]; exact bcg _ _ (sac _ _ e3) n3, n1, n2, n3, n4⟩) hka)
          rw [upd_ne nlqk, map_snd_zip_le _ _ (by omega)]
          exact eqg
        · rw [List.map_append, hna, List.take_succ, ht, List.map_append]
          rfl
        · rcases List.mem_append.mp hy with h | h
          · exact hsa y h
          · rw [List.mem_singleton.mp h]
            exact ⟨st, rfl, stl, fun s hs => srt_mem (hst s hs)⟩
      · rintro σ Ha ⟨v4, v5, ks, kds, rfl, ga, kpa, eka, lka, hka, hna, hsa⟩
        rw [lnm2] at hna
        have lnn : (nmsC si2 way2 fi2 m2).length = m2 := by unfold nmsC; rw [List.length_map, List.length_range]
        have hna' : kds.map Kn.name = (nmsC si2 way2 fi2 m2).map S := by rw [hna, List.take_of_length_le (by omega)]
        have bfin : But p H Ha := fun x o e n => by
          exact kpa _ _ (b018 _ _ e n) n (ne_of_none e lkH)
        refine ⟨_, rfl, q d Ha ⟨4 + w0, 4, 0, ((nmsC si way fi (A + b + 3)).take A).map S, (((nmsC si way fi (A + b + 3)).drop A).take b).map S, ((((nmsC si way fi (A + b + 3)).drop A).take b).take gt).map S, kds⟩ _ kv15 lf lp lm lk lg ks bfin ⟨kpa _ _ ed pd.symm nk5, u1, u2, u3, u4, u5, u6, u7, w8, ?_, ?_, ?_, ?_, eka, pmap (fun u y ⟨pt', l', e1, e2, e3, _⟩ => ⟨pt', l', e1, e2, e3⟩) hka⟩ (sh_ok (by omega) (by omega) hA1 hA4 hb3 (by omega) hsi hway hfi hsi2 hway2 hfi2 km1 km8 hna' hsa)⟩
        · rw [← txV_strs]; exact kpa _ _ elf plf.symm nk2
        · rw [← txV_strs]; exact kpa _ _ elp plp.symm nk3
        · rw [← txV_strs]; exact kpa _ _ elm plm.symm nk4
        · rw [← txV_strs]; exact kpa _ _ elg plg.symm nk6
    · refine ⟨_, rfl, p, 4, rfl, hp, by decide, by decide, fun a H1 ha g1 b1 => ⟨_, _, rfl, rfl, _, rfl, p, 4, rfl, g1, by decide, by decide, fun b H2 hb g2 b2 => ⟨by show 2 ≤ sizeLine; decide, fun lm nlm => ?_⟩⟩⟩
      refine ⟨lm, 1 + a, b, rfl, g2.same (same_new nlm), (b1.trans b2).same (same_new nlm), ?_, g2.ne nlm, by omega, by omega, by omega⟩
      rw [upd_same]
      rfl
end
end L3
namespace L3
open PySem L2
def alnum (c : Nat) : Prop := (97 ≤ c ∧ c ≤ 122) ∨ (48 ≤ c ∧ c ≤ 57)
theorem aln_gap {c : Nat} (h : alnum c) : TK.gap c = false := by
  unfold alnum at h
  unfold TK.gap
  simp
  omega
theorem aln_single {c : Nat} (h : alnum c) : TK.single c = false := by
  unfold alnum at h
  unfold TK.single
  simp
  omega
theorem aln_sgn {c : Nat} (h : alnum c) (r : List Nat) : TK.sgn (c :: r) = 0 := by
  have hs := aln_single h
  unfold alnum at h
  cases r with
  | nil => rw [TK.sgn_one, hs]; rfl
  | cons d r =>
    rw [TK.sgn_two, hs, if_neg (by simp; omega)]
    rfl
theorem aln_run : ∀ t : List Nat, (∀ c ∈ t, alnum c) → TK.run t = t.length
  | [], _ => rfl
  | c :: r, h => by
    have hc := h c List.mem_cons_self
    rw [TK.run_cons, aln_gap hc, aln_sgn hc, if_neg (by simp), aln_run r (fun d hd => h d (List.mem_cons_of_mem _ hd)), List.length_cons]
    omega
theorem tok_aln {t : List Nat} (hne : t ≠ []) (h : ∀ c ∈ t, alnum c) : TK.Tok t := by
  cases t with
  | nil => exact absurd rfl hne
  | cons c r =>
    have hc := h c List.mem_cons_self
    have := TK.tok_one (r := r) (aln_gap hc)
    have e : TK.one (c :: r) = (c :: r).length := by
      unfold TK.one
      rw [if_pos (aln_sgn hc r), aln_run _ h]
    rw [e, List.take_length] at this
    exact this
theorem tok_sign {c : Nat} (h : c = 40 ∨ c = 41 ∨ c = 44 ∨ c = 59 ∨ c = 123 ∨ c = 125) : TK.Tok [c] := by
  rcases h with rfl | rfl | rfl | rfl | rfl | rfl
  · exact TK.tok_one (c := 40) (r := []) rfl
  · exact TK.tok_one (c := 41) (r := []) rfl
  · exact TK.tok_one (c := 44) (r := []) rfl
  · exact TK.tok_one (c := 59) (r := []) rfl
  · exact TK.tok_one (c := 123) (r := []) rfl
  · exact TK.tok_one (c := 125) (r := []) rfl
def fldG : List (Str × Str) → List (List Nat)
  | [] => []
  | [x] => [cp x.1, cp x.2]
  | x :: y :: r => cp x.1 :: cp x.2 :: [44] :: fldG (y :: r)
def grp1 (D : Fm) : List (List (List Nat)) := [[cp "word"], [dg D.width], [[59], cp "cells"], [dg D.cells], [[59], cp "depth"], [dg D.depth], [[59], cp "places"]]
def grp2 (D : Fm) : List (List (List Nat)) := D.places.map (fun z => [cp z]) ++ [[[59], cp "marks"]] ++ D.marks.map (fun z => [cp z])
def grp3 (D : Fm) : List (List (List Nat)) := [[[59], cp "gate"]] ++ D.gates.map (fun z => [cp z]) ++ [[[59]]]
def grpK (x : Kn) : List (List (List Nat)) := [[cp "kind"], [cp x.name], [[40]], fldG x.fs, [[41], [123], cp "next", [125]]]
def grp (D : Fm) : List (List (List Nat)) := grp1 D ++ grp2 D ++ grp3 D ++ (D.kinds.map grpK).flatten
def tkD (D : Fm) : List (List Nat) := (grp D).flatten
theorem jn_cons {sep t : List Nat} {r : List (List Nat)} (h : r ≠ []) : TK.jn sep (t :: r) = t ++ (sep ++ TK.jn sep r) := by
  cases r with
  | nil => exact absurd rfl h
  | cons u r => rfl
theorem jn_app {sep : List Nat} : ∀ {a b : List (List Nat)}, a ≠ [] → b ≠ [] → TK.jn sep (a ++ b) = TK.jn sep a ++ (sep ++ TK.jn sep b)
  | [], _, h, _ => absurd rfl h
  | [t], b, _, hb => jn_cons hb
  | t :: u :: r, b, _, hb => by
    show TK.jn sep (t :: (u :: r ++ b)) = _
    rw [jn_cons (by simp), jn_app (by simp) hb, jn_cons (t := t) (r := u :: r) (by simp)]
    simp
theorem jn_flat {sep : List Nat} : ∀ gs : List (List (List Nat)), (∀ g ∈ gs, g ≠ []) → TK.jn sep (gs.map (TK.jn sep)) = TK.jn sep gs.flatten
  | [], _ => rfl
  | [g], _ => by simp [TK.jn]
  | g :: h :: r, hg => by
    have ih := jn_flat (sep := sep) (h :: r) (fun x hx => hg x (List.mem_cons_of_mem _ hx))
    have e : (g :: h :: r).flatten = g ++ (h :: r).flatten := List.flatten_cons
    rw [List.map_cons, jn_cons (by simp), ih, e]
    have hne : (h :: r).flatten ≠ [] := by
      have := hg h (by simp)
      simp [this]
    rw [jn_app (hg g List.mem_cons_self) hne]
theorem jn_fld : ∀ fs : List (Str × Str), TK.jn [32, 44, 32] (fs.map fun x => cp x.1 ++ (32 :: cp x.2)) = TK.jn [32] (fldG fs)
  | [] => rfl
  | [x] => rfl
  | x :: y :: r => by
    have ih := jn_fld (y :: r)
    have hne : fldG (y :: r) ≠ [] := by
      cases r <;> simp [fldG]
    rw [List.map_cons, jn_cons (by simp), ih]
    show _ = TK.jn [32] (cp x.1 :: cp x.2 :: [44] :: fldG (y :: r))
    rw [jn_cons (by simp), jn_cons (by simp), jn_cons hne]
    simp
theorem flat_filter (gs : List (List (List Nat))) : (gs.filter fun g => !g.isEmpty).flatten = gs.flatten := by
  induction gs with
  | nil => rfl
  | cons g r ih =>
    cases g with
    | nil => simpa using ih
    | cons a b => simp [ih]
structure TkOk (t : List Nat) : Prop where
  tok : TK.Tok t
  le : t.length ≤ 8
theorem TkOk.name {z : Str} (h : NameS z) : TkOk (cp z) := by
  refine ⟨tok_aln (fun e => ?_) (fun c hc => .inl (h.2.2.2 c hc)), h.len⟩
  have := h.pos
  rw [e] at this
  simp at this
theorem TkOk.num {n : Nat} (h : n < 100000000) : TkOk (dg n) := by
  refine ⟨tok_aln (fun e => ?_) (fun c hc => .inr (dg_all n c hc)), (dg_len n).2 8 (by decide) h⟩
  have := (dg_len n).1
  rw [e] at this
  simp at this
theorem TkOk.sign {c : Nat} (h : c = 40 ∨ c = 41 ∨ c = 44 ∨ c = 59 ∨ c = 123 ∨ c = 125) : TkOk [c] := ⟨tok_sign h, by simp⟩
def wordsL : List Str := ["word", "cells", "depth", "places", "marks", "gate", "kind", "next", "place", "mark", "number", "row"]
theorem words_ok : (wordsL.all fun z => decide (cp z ≠ []) && decide ((cp z).length ≤ 8) && (cp z).all fun c => decide (97 ≤ c) && decide (c ≤ 122)) = true := by decide +kernel
theorem TkOk.word {z : Str} (h : z ∈ wordsL) : TkOk (cp z) := by
  have := List.all_eq_true.mp words_ok z h
  simp only [Bool.and_eq_true, decide_eq_true_eq, List.all_eq_true] at this
  exact ⟨tok_aln this.1.1 (fun c hc => .inl (this.2 c hc)), this.1.2⟩
theorem sort_words {s : Str} (h : s ∈ sortL) : s ∈ wordsL := by
  have e : s ∈ (["place", "mark", "number", "row"] : List Str) := h
  show s ∈ (["word", "cells", "depth", "places", "marks", "gate", "kind", "next", "place", "mark", "number", "row"] : List Str)
  simp only [List.mem_cons, List.not_mem_nil, or_false] at e ⊢
  rcases e with h | h | h | h <;> simp [h]
theorem zip_mem {a b : List Str} {x : Str × Str} (h : x ∈ a.zip b) : x.1 ∈ a ∧ x.2 ∈ b := ⟨(List.of_mem_zip (a := x.1) (b := x.2) h).1, (List.of_mem_zip (a := x.1) (b := x.2) h).2⟩
theorem fs_ok {D : Fm} {fn : List Str} (h : ShOk D fn) {x : Kn} (hx : x ∈ D.kinds) : ∀ f ∈ x.fs, NameS f.1 ∧ f.2 ∈ sortL := by
  obtain ⟨st, e, _, hs⟩ := h.kf x hx
  rw [e]
  intro f hf
  obtain ⟨h1, h2⟩ := zip_mem hf
  exact ⟨h.fS _ h1, (hs _ h2).1⟩
theorem fldG_ok : ∀ {fs : List (Str × Str)}, (∀ f ∈ fs, NameS f.1 ∧ f.2 ∈ sortL) → ∀ t ∈ fldG fs, TkOk t
  | [], _, t, h => by simp [fldG] at h
  | [x], hf, t, h => by
    have hx := hf x List.mem_cons_self
    simp [fldG] at h
    rcases h with rfl | rfl
    · exact .name hx.1
    · exact .word (sort_words hx.2)
  | x :: y :: r, hf, t, h => by
    have hx := hf x List.mem_cons_self
    have h' : t ∈ cp x.1 :: cp x.2 :: [44] :: fldG (y :: r) := h
    simp only [List.mem_cons] at h'
    rcases h' with rfl | rfl | rfl | h'
    · exact .name hx.1
    · exact .word (sort_words hx.2)
    · exact .sign (by decide)
    · exact fldG_ok (fun f hf' => hf f (List.mem_cons_of_mem _ hf')) t h'
theorem fldG_len : ∀ fs : List (Str × Str), (fldG fs).length = 3 * fs.length - 1
  | [] => rfl
  | [x] => rfl
  | x :: y :: r => by
    have := fldG_len (y :: r)
    show (cp x.1 :: cp x.2 :: [44] :: fldG (y :: r)).length = _
    simp only [List.length_cons] at this ⊢
    omega
theorem wd {z : Str} (h : z ∈ wordsL) : TkOk (cp z) := .word h
theorem grp_ok {D : Fm} {fn : List Str} (h : ShOk D fn) : ∀ g ∈ grp D, g.length ≤ 8 ∧ ∀ t ∈ g, TkOk t := by
  have one : ∀ (t : List Nat), TkOk t → ([t] : List (List Nat)).length ≤ 8 ∧ ∀ u ∈ [t], TkOk u := fun t ht => ⟨by simp, fun u hu => by rw [List.mem_singleton.mp hu]; exact ht⟩
  have two : ∀ (a b : List Nat), TkOk a → TkOk b → ([a, b] : List (List Nat)).length ≤ 8 ∧ ∀ u ∈ [a, b], TkOk u := fun a b ha hb => ⟨by simp, fun u hu => by
    simp only [List.mem_cons, List.not_mem_nil, or_false] at hu
    rcases hu with rfl | rfl
    · exact ha
    · exact hb⟩
  intro g hg
  unfold grp at hg
  have w24 := h.w24
  have ce := h.ce
  have de := h.de
  rcases List.mem_append.mp hg with hg | hg
  · rcases List.mem_append.mp hg with hg | hg
    · rcases List.mem_append.mp hg with hg | hg
      · unfold grp1 at hg
        simp only [List.mem_cons, List.not_mem_nil, or_false] at hg
        rcases hg with rfl | rfl | rfl | rfl | rfl | rfl | rfl
        · exact one _ (wd (by decide +kernel))
        · exact one _ (.num (by omega))
        · exact two _ _ (.sign (by decide)) (wd (by decide +kernel))
        · exact one _ (.num (by omega))
        · exact two _ _ (.sign (by decide)) (wd (by decide +kernel))
        · exact one _ (.num (by omega))
        · exact two _ _ (.sign (by decide)) (wd (by decide +kernel))
      · unfold grp2 at hg
        rcases List.mem_append.mp hg with hg | hg
        · rcases List.mem_append.mp hg with hg | hg
          · obtain ⟨z, hz, rfl⟩ := List.mem_map.mp hg
            exact one _ (.name (h.nm.pl z hz))
          · rw [List.mem_singleton.mp hg]
            exact two _ _ (.sign (by decide)) (wd (by decide +kernel))
        · obtain ⟨z, hz, rfl⟩ := List.mem_map.mp hg
          exact one _ (.name (h.nm.mrk z hz))
    · unfold grp3 at hg
      rcases List.mem_append.mp hg with hg | hg
      · rcases List.mem_append.mp hg with hg | hg
        · rw [List.mem_singleton.mp hg]
          exact two _ _ (.sign (by decide)) (wd (by decide +kernel))
        · obtain ⟨z, hz, rfl⟩ := List.mem_map.mp hg
          exact one _ (.name (h.nm.mrk z (h.fm.gt z hz)))
      · rw [List.mem_singleton.mp hg]
        exact one _ (.sign (by decide))
  · obtain ⟨gk, hk, hg⟩ := List.mem_flatten.mp hg
    obtain ⟨x, hx, rfl⟩ := List.mem_map.mp hk
    unfold grpK at hg
    simp only [List.mem_cons, List.not_mem_nil, or_false] at hg
    rcases hg with rfl | rfl | rfl | rfl | rfl
    · exact one _ (wd (by decide +kernel))
    · exact one _ (.name (h.nm.kn x hx))
    · exact one _ (.sign (by decide))
    · refine ⟨?_, fldG_ok (fs_ok h hx)⟩
      rw [fldG_len]
      have := (h.fm.kf x hx).2
      omega
    · refine ⟨by simp, fun u hu => ?_⟩
      simp only [List.mem_cons, List.not_mem_nil, or_false] at hu
      rcases hu with rfl | rfl | rfl | rfl
      · exact .sign (by decide)
      · exact .sign (by decide)
      · exact wd (by decide +kernel)
      · exact .sign (by decide)
theorem flat_len (k : Nat) : ∀ gs : List (List (List Nat)), (∀ g ∈ gs, g.length ≤ k) → gs.flatten.length ≤ gs.length * k
  | [], _ => by simp
  | g :: r, h => by
    have ih := flat_len k r (fun g hg => h g (List.mem_cons_of_mem _ hg))
    have := h g List.mem_cons_self
    rw [List.flatten_cons, List.length_append, List.length_cons]
    have : (r.length + 1) * k = r.length * k + k := by rw [Nat.add_mul, Nat.one_mul]
    omega
theorem kinds_len : ∀ l : List Kn, ((l.map grpK).flatten).length = 5 * l.length
  | [] => rfl
  | x :: r => by
    rw [List.map_cons, List.flatten_cons, List.length_append, kinds_len r, List.length_cons]
    show 5 + _ = _
    omega
theorem grp_len {D : Fm} {fn : List Str} (h : ShOk D fn) : (grp D).length ≤ 60 := by
  unfold grp grp1 grp2 grp3
  simp only [List.length_append, List.length_map, List.length_cons, List.length_nil, kinds_len]
  have := h.fm.p4
  have := h.fm.m3
  have := h.fm.k8
  have := h.fm.g1
  omega
def textC (D : Fm) : List Nat := TK.jn [32] (tkD D)
theorem text_toks {D : Fm} {fn : List Str} (h : ShOk D fn) : TK.toks (textC D) = tkD D := by
  have := TK.toks_jn [32] [] (by simp) (by decide) (by simp) (tkD D) (fun t ht => by
    obtain ⟨g, hg, ht⟩ := List.mem_flatten.mp ht
    exact ((grp_ok h g hg).2 t ht).tok)
  rw [List.append_nil] at this
  exact this
theorem text_len {D : Fm} {fn : List Str} (h : ShOk D fn) : (textC D).length ≤ 20000 ∧ (tkD D).length ≤ 1500 := by
  have h1 := flat_len 8 (grp D) (fun g hg => (grp_ok h g hg).1)
  have h2 := grp_len h
  have h3 := jn_len [32] (tkD D)
  have h4 := sum_le 8 (tkD D) (fun t ht => by
    obtain ⟨g, hg, ht⟩ := List.mem_flatten.mp ht
    exact ((grp_ok h g hg).2 t ht).le)
  unfold textC
  simp only [List.length_cons, List.length_nil] at h3
  have h5 : (tkD D).length ≤ 480 := by
    have : (tkD D).length = (grp D).flatten.length := rfl
    omega
  exact ⟨by omega, by omega⟩
end L3
namespace L3
open PySem L2
def fT (fs : List (Str × Str)) : List Str := (fldG fs).map S
def kT (x : Kn) : List Str := [("kind" : Str), x.name, ("(" : Str)] ++ fT x.fs ++ [(")" : Str), ("{" : Str), ("next" : Str), ("}" : Str)]
def tT (D : Fm) : List Str := [("word" : Str), (toString (D.width : Int) : Str), (";" : Str), ("cells" : Str), (toString (D.cells : Int) : Str), (";" : Str), ("depth" : Str), (toString (D.depth : Int) : Str), (";" : Str), ("places" : Str)] ++ D.places ++ [(";" : Str), ("marks" : Str)] ++ D.marks ++ [(";" : Str), ("gate" : Str)] ++ D.gates ++ [(";" : Str)] ++ (D.kinds.map kT).flatten
theorem fT_one (x : Str × Str) : fT [x] = [x.1, x.2] := by
  show [S (cp x.1), S (cp x.2)] = _
  rw [S_cp, S_cp]
theorem fT_two (x y : Str × Str) (r : List (Str × Str)) : fT (x :: y :: r) = x.1 :: x.2 :: ("," : Str) :: fT (y :: r) := by
  show S (cp x.1) :: S (cp x.2) :: S [44] :: fT (y :: r) = _
  rw [S_cp, S_cp]
  have : S [44] = ("," : Str) := by decide +kernel
  rw [this]
theorem fT_len (fs : List (Str × Str)) : (fT fs).length = 3 * fs.length - 1 := by
  unfold fT
  rw [List.length_map, fldG_len]
theorem map_one (l : List Str) : ((l.map fun z => [cp z]).flatten).map S = l := by
  induction l with
  | nil => rfl
  | cons z r ih =>
    rw [List.map_cons, List.flatten_cons, List.map_append, ih]
    show S (cp z) :: r = _
    rw [S_cp]
theorem kT_eq (x : Kn) : ((grpK x).flatten).map S = kT x := by
  unfold grpK kT
  have e1 : S (cp ("kind" : Str)) = ("kind" : Str) := S_cp _
  have e2 : S [40] = ("(" : Str) := by decide +kernel
  have e3 : S [41] = (")" : Str) := by decide +kernel
  have e4 : S [123] = ("{" : Str) := by decide +kernel
  have e5 : S (cp ("next" : Str)) = ("next" : Str) := S_cp _
  have e6 : S [125] = ("}" : Str) := by decide +kernel
  simp [e1, e2, e3, e4, e5, e6, S_cp, fT]
theorem kinds_eq (l : List Kn) : (((l.map grpK).flatten).flatten).map S = (l.map kT).flatten := by
  induction l with
  | nil => rfl
  | cons x r ih =>
    rw [List.map_cons, List.flatten_cons, List.flatten_append, List.map_append, ih, kT_eq, List.map_cons, List.flatten_cons]
theorem tT_eq (D : Fm) : (tkD D).map S = tT D := by
  unfold tkD grp tT
  have e2 : S [59] = (";" : Str) := by decide +kernel
  rw [List.flatten_append, List.flatten_append, List.flatten_append, List.map_append, List.map_append, List.map_append, kinds_eq]
  unfold grp1 grp2 grp3
  rw [List.flatten_append, List.flatten_append, List.flatten_append, List.flatten_append, List.map_append, List.map_append, List.map_append, List.map_append, map_one, map_one, map_one]
  rw [str_dg, str_dg, str_dg]
  simp [e2, S_cp]
theorem at_mid {A B ts : List Str} {x : Str} {k : Nat} (e : ts = A ++ x :: B) (h : A.length = k) : (tz ts)[k]? = some x := by
  subst e h
  unfold tz
  rw [List.append_assoc, List.getElem?_append_right (Nat.le_refl _)]
  simp
theorem nms_mid {A B ts zs : List Str} {k : Nat} (e : ts = A ++ (zs ++ B)) (h : A.length = k) (hn : ∀ z ∈ zs, NameS z) : NmsAt ts k zs := by
  intro i hi
  refine ⟨at_mid (A := A ++ zs.take i) (B := zs.drop (i + 1) ++ B) ?_ ?_, hn _ (List.getElem_mem hi)⟩
  · rw [e, List.append_assoc]
    congr 1
    rw [← List.cons_append, ← List.drop_eq_getElem_cons hi, ← List.append_assoc, List.take_append_drop]
  · rw [List.length_append, List.length_take]
    omega
theorem flds_mid : ∀ (fs : List (Str × Str)) {A B ts : List Str} {k : Nat}, ts = A ++ (fT fs ++ B) → A.length = k → (∀ f ∈ fs, NameS f.1 ∧ f.2 ∈ sortL) → FldsAt ts k fs
  | [], _, _, _, _, _, _, _ => fun i h => absurd h (by simp)
  | [x], A, B, ts, k, e, h, hf => fun i hi => by
    have h0 : i = 0 := by simpa using hi
    subst h0
    rw [fT_one] at e
    have hx := hf x List.mem_cons_self
    refine ⟨at_mid (A := A) (B := x.2 :: B) e h, hx.1, at_mid (A := A ++ [x.1]) (B := B) (by rw [e]; simp) (by simp [h]), hx.2, fun hh => absurd hh (by simp)⟩
  | x :: y :: r, A, B, ts, k, e, h, hf => fun i hi => by
    rw [fT_two] at e
    have hx := hf x List.mem_cons_self
    cases i with
    | zero =>
      refine ⟨at_mid (A := A) (B := x.2 :: ("," : Str) :: (fT (y :: r) ++ B)) (by rw [e]; simp) h, hx.1, at_mid (A := A ++ [x.1]) (B := ("," : Str) :: (fT (y :: r) ++ B)) (by rw [e]; simp) (by simp [h]), hx.2, fun _ => at_mid (A := A ++ [x.1, x.2]) (B := fT (y :: r) ++ B) (by rw [e]; simp) (by simp [h])⟩
    | succ i =>
      have ih := flds_mid (y :: r) (A := A ++ [x.1, x.2, ("," : Str)]) (B := B) (ts := ts) (k := k + 3) (by rw [e]; simp) (by simp [h]) (fun f hf' => hf f (List.mem_cons_of_mem _ hf')) i (by simpa using hi)
      have e1 : k + 3 + 3 * i = k + 3 * (i + 1) := by omega
      rw [e1] at ih
      refine ⟨ih.1, ih.2.1, ih.2.2.1, ih.2.2.2.1, fun hh => ih.2.2.2.2 (by simpa using hh)⟩
theorem kind_mid {x : Kn} {A B ts : List Str} {k : Nat} (e : ts = A ++ (kT x ++ B)) (h : A.length = k) (hn : NameS x.name) (hf : ∀ f ∈ x.fs, NameS f.1 ∧ f.2 ∈ sortL) (h3 : x.fs.length ≤ 3) : KindAt ts k x := by
  unfold kT at e
  have fl := fT_len x.fs
  refine ⟨at_mid (A := A) (B := [x.name, ("(" : Str)] ++ fT x.fs ++ [(")" : Str), ("{" : Str), ("next" : Str), ("}" : Str)] ++ B) (by rw [e]; simp) h,
    at_mid (A := A ++ [("kind" : Str)]) (B := [("(" : Str)] ++ fT x.fs ++ [(")" : Str), ("{" : Str), ("next" : Str), ("}" : Str)] ++ B) (by rw [e]; simp) (by simp [h]), hn,
    at_mid (A := A ++ [("kind" : Str), x.name]) (B := fT x.fs ++ [(")" : Str), ("{" : Str), ("next" : Str), ("}" : Str)] ++ B) (by rw [e]; simp) (by simp [h]),
    flds_mid x.fs (A := A ++ [("kind" : Str), x.name, ("(" : Str)]) (B := [(")" : Str), ("{" : Str), ("next" : Str), ("}" : Str)] ++ B) (by rw [e]; simp) (by simp [h]) hf,
    at_mid (A := A ++ [("kind" : Str), x.name, ("(" : Str)] ++ fT x.fs) (B := [("{" : Str), ("next" : Str), ("}" : Str)] ++ B) (by rw [e]; simp) (by simp [h, fl]; omega), h3,
    at_mid (A := A ++ [("kind" : Str), x.name, ("(" : Str)] ++ fT x.fs ++ [(")" : Str)]) (B := [("next" : Str), ("}" : Str)] ++ B) (by rw [e]; simp) (by simp [h, fl]; omega),
    at_mid (A := A ++ [("kind" : Str), x.name, ("(" : Str)] ++ fT x.fs ++ [(")" : Str), ("{" : Str)]) (B := [("}" : Str)] ++ B) (by rw [e]; simp) (by simp [h, fl]; omega),
    at_mid (A := A ++ [("kind" : Str), x.name, ("(" : Str)] ++ fT x.fs ++ [(")" : Str), ("{" : Str), ("next" : Str)]) (B := B) (by rw [e]; simp) (by simp [h, fl]; omega)⟩
theorem kT_len (x : Kn) : (kT x).length = klen x := by
  unfold kT klen
  simp only [List.length_append, List.length_cons, List.length_nil, fT_len]
  omega
theorem kinds_mid : ∀ (l : List Kn) {A ts : List Str} {k : Nat}, ts = A ++ (l.map kT).flatten → A.length = k → (∀ x ∈ l, NameS x.name ∧ (∀ f ∈ x.fs, NameS f.1 ∧ f.2 ∈ sortL) ∧ x.fs.length ≤ 3) → KindsAt ts k l
  | [], A, ts, k, e, h, _ => by
    show k = ts.length
    rw [e]
    simp [h]
  | x :: r, A, ts, k, e, h, hx => by
    rw [List.map_cons, List.flatten_cons] at e
    obtain ⟨h1, h2, h3⟩ := hx x List.mem_cons_self
    exact ⟨kind_mid e h h1 h2 h3, kinds_mid r (A := A ++ kT x) (by rw [e]; simp) (by rw [List.length_append, kT_len, h]) (fun y hy => hx y (List.mem_cons_of_mem _ hy))⟩
theorem form_at {D : Fm} {fn : List Str} (h : ShOk D fn) : FormAt (tT D) D := by
  have ce := h.ce
  have de := h.de
  generalize hR : (D.kinds.map kT).flatten = R
  have e0 : tT D = [("word" : Str), (toString (D.width : Int) : Str), (";" : Str), ("cells" : Str), (toString (D.cells : Int) : Str), (";" : Str), ("depth" : Str), (toString (D.depth : Int) : Str), (";" : Str), ("places" : Str)] ++ (D.places ++ ([(";" : Str), ("marks" : Str)] ++ (D.marks ++ ([(";" : Str), ("gate" : Str)] ++ (D.gates ++ ([(";" : Str)] ++ R)))))) := by
    unfold tT
    rw [hR]
    simp
  refine ⟨at_mid (A := []) e0 rfl, at_mid (A := [("word" : Str)]) e0 rfl, at_mid (A := [("word" : Str), _]) e0 rfl, at_mid (A := [("word" : Str), _, (";" : Str)]) e0 rfl, at_mid (A := [("word" : Str), _, (";" : Str), ("cells" : Str)]) e0 rfl, at_mid (A := [("word" : Str), _, (";" : Str), ("cells" : Str), _]) e0 rfl, at_mid (A := [("word" : Str), _, (";" : Str), ("cells" : Str), _, (";" : Str)]) e0 rfl, at_mid (A := [("word" : Str), _, (";" : Str), ("cells" : Str), _, (";" : Str), ("depth" : Str)]) e0 rfl, at_mid (A := [("word" : Str), _, (";" : Str), ("cells" : Str), _, (";" : Str), ("depth" : Str), _]) e0 rfl, at_mid (A := [("word" : Str), _, (";" : Str), ("cells" : Str), _, (";" : Str), ("depth" : Str), _, (";" : Str)]) e0 rfl,
    nms_mid e0 rfl h.nm.pl, ?_, ?_, ?_, ?_, ?_, ?_, ?_, ?_, ⟨h.w4, h.w24⟩, ⟨by omega, by omega⟩, by omega, ⟨h.p1, h.fm.p4⟩, h.fm.m3, h.fm.g1, ⟨h.k1, h.fm.k8⟩⟩
  all_goals (have hW : ([("word" : Str), (toString (D.width : Int) : Str), (";" : Str), ("cells" : Str), (toString (D.cells : Int) : Str), (";" : Str), ("depth" : Str), (toString (D.depth : Int) : Str), (";" : Str), ("places" : Str)] : List Str).length = 10 := rfl)
  all_goals (generalize ([("word" : Str), (toString (D.width : Int) : Str), (";" : Str), ("cells" : Str), (toString (D.cells : Int) : Str), (";" : Str), ("depth" : Str), (toString (D.depth : Int) : Str), (";" : Str), ("places" : Str)] : List Str) = W at *)
  · exact at_mid (A := W ++ D.places) (B := ("marks" : Str) :: (D.marks ++ ([(";" : Str), ("gate" : Str)] ++ (D.gates ++ ([(";" : Str)] ++ R))))) (by rw [e0]; simp) (by simp [hW])
  · exact at_mid (A := W ++ D.places ++ [(";" : Str)]) (B := D.marks ++ ([(";" : Str), ("gate" : Str)] ++ (D.gates ++ ([(";" : Str)] ++ R)))) (by rw [e0]; simp) (by simp [hW]; omega)
  · exact nms_mid (A := W ++ D.places ++ [(";" : Str), ("marks" : Str)]) (B := [(";" : Str), ("gate" : Str)] ++ (D.gates ++ ([(";" : Str)] ++ R))) (by rw [e0]; simp) (by simp [hW]; omega) h.nm.mrk
  · exact at_mid (A := W ++ D.places ++ [(";" : Str), ("marks" : Str)] ++ D.marks) (B := ("gate" : Str) :: (D.gates ++ ([(";" : Str)] ++ R))) (by rw [e0]; simp) (by simp [hW]; omega)
  · exact at_mid (A := W ++ D.places ++ [(";" : Str), ("marks" : Str)] ++ D.marks ++ [(";" : Str)]) (B := D.gates ++ ([(";" : Str)] ++ R)) (by rw [e0]; simp) (by simp [hW]; omega)
  · exact nms_mid (A := W ++ D.places ++ [(";" : Str), ("marks" : Str)] ++ D.marks ++ [(";" : Str), ("gate" : Str)]) (B := [(";" : Str)] ++ R) (by rw [e0]; simp) (by simp [hW]; omega) (fun z hz => h.nm.mrk z (h.fm.gt z hz))
  · exact at_mid (A := W ++ D.places ++ [(";" : Str), ("marks" : Str)] ++ D.marks ++ [(";" : Str), ("gate" : Str)] ++ D.gates) (B := R) (by rw [e0]; simp) (by simp [hW]; omega)
  · subst hR
    refine kinds_mid D.kinds (A := W ++ D.places ++ [(";" : Str), ("marks" : Str)] ++ D.marks ++ [(";" : Str), ("gate" : Str)] ++ D.gates ++ [(";" : Str)]) (by rw [e0]; simp) (by simp [hW]; omega) (fun x hx => ⟨h.nm.kn x hx, fs_ok h hx, (h.fm.kf x hx).2⟩)
end L3
namespace L2
open PySem PySem.Spec PyProof.Rows
theorem lc_enum {K : PySem.W.Frag} {l : Addr} {xs : List V} {g : TG} {tf : TT} {te : TE} {ix : List (Option Nat)} {σ : St} {H : Hp} {Q : VK} (Pv : Nat → List V → Hp → Prop) (h0 : Pv 0 [] H)
    (hl : ∀ i ys H, i ≤ xs.length → Pv i ys H → SqL K H l xs ∧ ys.length ≤ sizeLine)
    (hs : ∀ i x ys H T, xs[i]? = some x → H T = none → Pv i ys H → g (.ref T) (st0 ix σ) (upd H T (.tup [.int i, x])) fun σ2 H2 => ExtL (st0 ix σ) σ2 ∧ tf σ2 H2 fun b H3 => if b = true then te σ2 H3 fun y H4 => Nx Pv xs.length i (ys ++ [y]) H4 else Nx Pv xs.length i ys H3)
    (hd : ∀ ys H, Pv xs.length ys H → ∀ D, H D = none → Q (.ref D) (upd H D (.lst ys))) : LcGo (Ite K l) g tf te ix σ H Q := by
  refine ⟨fun i m ys H => m = xs.length - i ∧ i ≤ xs.length ∧ Pv i ys H, ⟨xs.length, by simp, Nat.zero_le _, h0⟩, ?_⟩
  rintro i m ys H ⟨rfl, hi, p⟩
  obtain ⟨q, hz⟩ := hl i ys H hi p
  by_cases hlt : i < xs.length
  · refine .inr ⟨⟨xs, xs[i], q, by simp [hlt]⟩, hz, fun v H' y => ?_⟩
    obtain ⟨T, x, e1, hT, e2, hy⟩ := y
    subst e1 e2
    exact hs i x ys H T (hy xs q) hT p
  · have e : i = xs.length := by omega
    subst e
    exact .inl ⟨⟨xs, q, Nat.le_refl _⟩, hz, hd ys H p⟩
end L2
namespace L3
open PySem L2
def wV (gs : List (List (List Nat))) : List V := txV (gs.map (TK.jn [32]))
theorem wV_app (a b : List (List (List Nat))) : wV (a ++ b) = wV a ++ wV b := by unfold wV txV; rw [List.map_append, List.map_append]
theorem wV_len (a : List (List (List Nat))) : (wV a).length = a.length := by unfold wV txV; rw [List.length_map, List.length_map]
theorem wV_strs (l : List Str) : wV (l.map fun z => [cp z]) = strsV l := by
  unfold wV txV strsV
  rw [List.map_map, List.map_map]
  refine List.map_congr_left fun z _ => ?_
  show V.str (S (cp z)) = _
  rw [S_cp]
theorem w1_eq (D : Fm) : ([V.str "word", .str (toString (D.width : Int) : Str), .str "; cells", .str (toString (D.cells : Int) : Str), .str "; depth", .str (toString (D.depth : Int) : Str), .str "; places"] : List V) = wV (grp1 D) := by
  have e1 : (("word" : Str)) = S (TK.jn [32] [cp "word"]) := by decide +kernel
  have e2 : (("; cells" : Str)) = S (TK.jn [32] [[59], cp "cells"]) := by decide +kernel
  have e3 : (("; depth" : Str)) = S (TK.jn [32] [[59], cp "depth"]) := by decide +kernel
  have e4 : (("; places" : Str)) = S (TK.jn [32] [[59], cp "places"]) := by decide +kernel
  rw [str_dg, str_dg, str_dg, e1, e2, e3, e4]
  rfl
theorem w2_eq : ([V.str "; marks"] : List V) = wV [[[59], cp "marks"]] := by
  have e2 : (("; marks" : Str)) = S (TK.jn [32] [[59], cp "marks"]) := by decide +kernel
  rw [e2]
  rfl
theorem w3_eq : ([V.str "; gate"] : List V) = wV [[[59], cp "gate"]] := by
  have e2 : (("; gate" : Str)) = S (TK.jn [32] [[59], cp "gate"]) := by decide +kernel
  rw [e2]
  rfl
theorem w4_eq : ([V.str ";"] : List V) = wV [[[59]]] := by
  have e2 : ((";" : Str)) = S (TK.jn [32] [[59]]) := by decide +kernel
  rw [e2]
  rfl
def fldC (fs : List (Str × Str)) : List (List Nat) := fs.map fun x => cp x.1 ++ (32 :: cp x.2)
theorem wk_eq (x : Kn) : ([V.str "kind", .str x.name, .str "(", .str (S (TK.jn [32, 44, 32] (fldC x.fs))), .str ") { next }"] : List V) = wV (grpK x) := by
  have e1 : (("kind" : Str)) = S (TK.jn [32] [cp "kind"]) := by decide +kernel
  have e2 : (("(" : Str)) = S (TK.jn [32] [[40]]) := by decide +kernel
  have e3 : ((") { next }" : Str)) = S (TK.jn [32] [[41], [123], cp "next", [125]]) := by decide +kernel
  have e4 : x.name = S (TK.jn [32] [cp x.name]) := (S_cp _).symm
  have e5 := jn_fld x.fs
  unfold fldC
  rw [e1, e2, e3, e5]
  conv => lhs; rw [e4]
  rfl
theorem word_empty {D : Fm} {fn : List Str} (h : ShOk D fn) {g : List (List Nat)} (hg : g ∈ grp D) : (!decide (V.str (S (TK.jn [32] g)) = V.str "")) = !g.isEmpty := by
  cases g with
  | nil =>
    have : V.str (S (TK.jn [32] [])) = V.str "" := congrArg V.str (by decide +kernel)
    rw [decide_eq_true this]
    rfl
  | cons t r =>
    have ht := ((grp_ok h _ hg).2 t List.mem_cons_self).tok.ne
    have hn : V.str (S (TK.jn [32] (t :: r))) ≠ V.str "" := by
      intro e
      have e1 := V.str.inj e
      have e2 := congrArg cp e1
      rw [cp_S] at e2
      exact jn_pos ht (e2.trans (by decide +kernel))
    rw [decide_eq_false hn]
    rfl
theorem text_eq {D : Fm} {fn : List Str} (h : ShOk D fn) : TK.jn [32] (((grp D).filter fun g => !g.isEmpty).map (TK.jn [32])) = textC D := by
  rw [jn_flat _ (fun g hg => ?_), flat_filter]
  · rfl
  · have := (List.mem_filter.mp hg).2
    intro e
    rw [e] at this
    simp at this
def spST : Sp := fun vs H Q _ => ∃ d D fn kvs lf lp lm lk lg ks, vs = [.ref d] ∧ KpV H d D fn kvs lf lp lm lk lg ks ∧ ShOk D fn ∧ ∀ H', Same H H' → Q (.str (S (textC D))) H'
section
variable {P : Program} {w : World} {K : PySem.W.Frag} {mg : Str → Option Value} {base : Heap} {C Cp : Addr} {tb tm : Tok}
theorem scST : FnScope ["_law_table", "_law_words", "_law_name", "_law_sorts", "_law_fields"] ["_law_table"] (defScope sShapeText) := ⟨rfl, rfl, rfl, by decide +kernel, rfl, by decide +kernel, by decide +kernel⟩
theorem ndKST : (["_law_k", "_law_sort", "_law_table"] : List Str).Nodup := by decide +kernel
theorem ndW : (["_law_word"] : List Str).Nodup := by decide +kernel
set_option maxHeartbeats 8000000 in
theorem ok_st {f : Addr} {fd : FuncData} (F : Fun K "_law_shape_text" "_law_shape_text" sShapeText f fd) (B : Bl mg) (B3 : Bl3 mg) : FnOk P w K mg base CX0 2 f fd ["_law_table"] spST := by
  refine F.ok scST (fun vs H Q E h => ?_) (fun cdv A outer s H vs Q E hr h => ?_)
  · obtain ⟨d, D, fn, kvs, lf, lp, lm, lk, lg, ks, rfl, _⟩ := h
    rfl
  · obtain ⟨d, D, fn, kvs, lf, lp, lm, lk, lg, ks, rfl, hK, hO, q⟩ := h
    have sz : (100000 : Nat) ≤ sizeLine := by decide
    have hu := hu_of hr
    have ce := hO.ce
    have de := hO.de
    have w24 := hO.w24
    have p4 := hO.fm.p4
    have m3 := hO.fm.m3
    have g1 := hO.fm.g1
    have k8 := hO.fm.k8
    refine ⟨_, pss_cut (fun σ H' => ∃ lw, σ = [some (.ref d), some (.ref lw), none, none, none] ∧ Same H H' ∧ H' lw = some (.lst (wV (grp1 D)))) (ps_set (i := 1) scST.nd rfl (Or.inl rfl) (pe_lst (pa_cons pe_str (pa_cons (pe_callTy call_str_int (by rfl) B.str boot_str' (pa_cons (pe_dget hu (pv 0) pe_str (fun _ _ => rfl)) pa_nil)) (pa_cons pe_str (pa_cons (pe_callTy call_str_int (by rfl) B.str boot_str' (pa_cons (pe_dget hu (pv 0) pe_str (fun _ _ => rfl)) pa_nil)) (pa_cons pe_str (pa_cons (pe_callTy call_str_int (by rfl) B.str boot_str' (pa_cons (pe_dget hu (pv 0) pe_str (fun _ _ => rfl)) pa_nil)) (pa_cons pe_str pa_nil)))))))))
      (pss_cut (fun σ H' => ∃ lw, σ = [some (.ref d), some (.ref lw), none, none, none] ∧ Same H H' ∧ H' lw = some (.lst (wV (grp1 D ++ grp2 D)))) (ps_set (i := 1) scST.nd rfl (Or.inl rfl) (pe_op op_cat (pe_op op_cat (pe_op op_cat (pv 1) (pe_dget hu (pv 0) pe_str (fun _ _ => rfl))) (pe_lst (pa_cons pe_str pa_nil))) (pe_dget hu (pv 0) pe_str (fun _ _ => rfl))))
      (pss_cut (fun σ H' => ∃ lw, σ = [some (.ref d), some (.ref lw), none, none, none] ∧ Same H H' ∧ H' lw = some (.lst (wV (grp1 D ++ grp2 D ++ grp3 D)))) (ps_set (i := 1) scST.nd rfl (Or.inl rfl) (pe_op op_cat (pe_op op_cat (pe_op op_cat (pv 1) (pe_lst (pa_cons pe_str pa_nil))) (pe_dget hu (pv 0) pe_str (fun _ _ => rfl))) (pe_lst (pa_cons pe_str pa_nil))))
      (pss_cons (ps_for PassesOwn.never rfl (pi_list (pe_dget hu (pv 0) pe_str (fun _ _ => rfl))) (pg_tup rfl (pgs_cons (pg_name (i := 2) scST.nd rfl (Or.inl rfl)) (pgs_cons (pg_name (i := 3) scST.nd rfl (Or.inl rfl)) pgs_nil)))
        (pss_cons (ps_setLC (i := 4) scST.nd rfl rfl (N' := ["_law_k", "_law_sort", "_law_table"]) (ix := [none, none, some 0]) (sc0 := defScope sShapeText) (N := ["_law_table", "_law_words", "_law_name", "_law_sorts", "_law_fields"]) rfl (by decide +kernel) (pi_enum rfl B3.enumerate (pa_cons (pv 3) pa_nil))
          (fun C' cl s H fp => pg_tupK (K := K) (n := 2) rfl rfl (pgs_cons (pg_name (i := 0) ndKST rfl (Or.inl rfl) (.inr rfl)) (pgs_cons (pg_name (i := 1) ndKST rfl (Or.inl rfl) (.inr rfl)) pgs_nil))) (fun _ _ _ _ _ => pf_nil) (fun C' cl s H fp => pe_op op_add_str (pe_op op_add_str (pe_ix (ix_listK (K := K) rfl) (pe_dget hu (pv 2) pe_str (fun _ _ => rfl)) (pv 0) (fun _ _ => rfl)) pe_str) (pv 1)))
        (pss_one (ps_set (i := 1) scST.nd rfl (Or.inl rfl) (pe_op op_cat (pv 1) (pe_lst (pa_cons pe_str (pa_cons (pv 2) (pa_cons pe_str (pa_cons (pe_bm PySem.F.plainAttrs_str PySem.F.slot_str_join PySem.F.type_str_join mt_join pe_str (pa_cons (pv 4) pa_nil)) (pa_cons pe_str pa_nil)))))))))))
      (pss_one (ps_ret (pe_bm PySem.F.plainAttrs_str PySem.F.slot_str_join PySem.F.type_str_join mt_join pe_str (pa_cons (pe_lc (N' := ["_law_word"]) (ix := [none]) (sc0 := defScope sShapeText) (N := ["_law_table", "_law_words", "_law_name", "_law_sorts", "_law_fields"]) rfl (by decide +kernel) (pi_list (pv 1))
        (fun C' cl s H fp => pg_name (i := 0) ndW rfl (Or.inl rfl) (.inr rfl)) (fun _ _ _ _ _ => pf_one (pt_cmpR op_ne (pv 0) pe_str (nomark _))) (fun C' cl s H fp => pv 0)) pa_nil))))))), ?_⟩
    refine ⟨?_, ?_⟩
    · rintro σ H1 ⟨lw, rfl, s1, ew⟩
      refine ⟨?_, ?_⟩
      · rintro σ H1 ⟨lw, rfl, s1, ew⟩
        refine ⟨?_, ?_⟩
        · rintro σ H1 ⟨lw, rfl, s1, ew⟩
          have K1 := hK.same s1
          refine ⟨_, rfl, d, _, rfl, dget_of K1.dd K1.v7, lk, rfl, ⟨_, SqL.of K1.ek⟩, ?_⟩
          have lks := hK.kd.length
          refine for_list (K := K) (a := lk) (xs := ks) (fun i σ H' => ∃ (lw : Addr) (v2 v3 v4 : Option V), σ = [some (.ref d), some (.ref lw), v2, v3, v4] ∧ Same H H' ∧ H' lw = some (.lst (wV (grp1 D ++ grp2 D ++ grp3 D ++ ((D.kinds.take i).map grpK).flatten)))) ⟨lw, _, _, _, rfl, s1, by simpa using ew⟩ (fun i σ H' _ ⟨_, _, _, _, _, s', _⟩ => SqL.of (s' _ _ hK.ek)) ?_ ?_
          · rintro i u σ H2 hx ⟨lw, v2, v3, v4, rfl, s2, ew2⟩
            have K2 := hK.same s2
            obtain ⟨x, hxi, pt, l, rfl, hpt, hl⟩ := pget K2.kd hx
            have hxm : x ∈ D.kinds := List.mem_of_getElem? hxi
            have hi8 : i < D.kinds.length := (List.getElem?_eq_some_iff.mp hxi).1
            obtain ⟨st, efs, st3, hst⟩ := hO.kf x hxm
            have f3 := hO.f3
            have esn : x.fs.map (·.2) = st := by rw [efs]; exact map_snd_zip_le _ _ (by omega)
            have fsl : x.fs.length = st.length := by rw [efs, List.length_zip]; omega
            refine ⟨pt, _, rfl, SqT.of hpt, rfl, _, _, rfl, _, _, rfl, rfl, ?_⟩
            refine ⟨_, rfl, l, rfl, ⟨_, SqL.of hl⟩, ?_⟩
            refine lc_enum (K := K) (l := l) (xs := strsV (x.fs.map (·.2))) (fun j ys H' => Same H2 H' ∧ ys = txV ((fldC x.fs).take j)) ⟨Same.refl _, rfl⟩ (fun j ys H' hj ⟨s', e'⟩ => ⟨SqL.of (s' _ _ hl), by
                rw [e']
                unfold txV fldC
                rw [List.length_map, List.length_take, List.length_map]
                omega⟩) ?_ ?_
            · rintro j y ys H3 T1 hy nT ⟨s3, rfl⟩
              obtain ⟨fl, hfl, rfl⟩ : ∃ g, x.fs[j]? = some g ∧ y = .str g.2 := by
                unfold strsV at hy
                rw [List.getElem?_map, List.getElem?_map] at hy
                cases e : x.fs[j]? with
                | none => rw [e] at hy; cases hy
                | some g => rw [e] at hy; exact ⟨g, rfl, (Option.some.inj hy).symm⟩
              have hfm : fl ∈ x.fs := List.mem_of_getElem? hfl
              have hfo := fs_ok hO hxm fl hfm
              have hfn : fn[j]? = some fl.1 := by
                have h' := hfl
                rw [efs] at h'
                exact (List.getElem?_zip_eq_some.mp h').1
              have s4 := same_new (o := .tup [.int (j : Int), .str fl.2]) nT
              have s24 := s3.trans s4
              have K4 := K2.same s24
              refine ⟨T1, _, rfl, SqT.of upd_same, rfl, _, _, rfl, _, _, rfl, rfl, ⟨rfl, trivial⟩, tAny_T ?_⟩
              have hfn' : (strsV fn)[j]? = some (.str fl.1) := by unfold strsV; rw [List.getElem?_map, hfn]; rfl
              have n8 := hfo.1.len
              have w8 := (wd (sort_words hfo.2)).le
              have ln1 : fl.1.length = (cp fl.1).length := by unfold cp; simp [Str.length]
              have ln2 : fl.2.length = (cp fl.2).length := by unfold cp; simp [Str.length]
              refine ⟨_, rfl, d, _, rfl, dget_of K4.dd K4.v4, _, rfl, lf, _, _, _, rfl, rfl, SqL.of K4.ef, atI_nat hfn', _, _, rfl, rfl, ?_, _, rfl, _, _, rfl, rfl, ?_, ?_⟩
              · show fl.1.length + 1 ≤ _
                omega
              · rw [← S_cp fl.1, sp_S, S_app, S_len, List.length_append]
                show _ + 1 + _ ≤ _
                omega
              · have ev : fl.1 ++ (" " : Str) ++ fl.2 = S (cp fl.1 ++ (32 :: cp fl.2)) := by
                  rw [← S_cp fl.1, ← S_cp fl.2, sp_S, S_app, S_app, cp_S, cp_S]
                  simp
                rw [ev]
                refine Nx.mk (List.getElem?_eq_some_iff.mp hy).1 ⟨s24, ?_⟩
                unfold fldC
                rw [← List.map_take, ← List.map_take, List.take_succ, hfl]
                unfold txV
                simp
            rintro ys H3 ⟨s3, rfl⟩ lq nlq
            have etl : (fldC x.fs).take (strsV (x.fs.map (·.2))).length = fldC x.fs := by
              refine List.take_of_length_le ?_
              unfold fldC strsV
              simp
            rw [etl]
            have s4 := same_new (o := .lst (txV (fldC x.fs))) nlq
            have e4 : (upd H3 lq (.lst (txV (fldC x.fs)))) lq = some (.lst (txV (fldC x.fs))) := upd_same
            generalize upd H3 lq (.lst (txV (fldC x.fs))) = H4 at *
            have s24 := s3.trans s4
            have hfl8 : ∀ t ∈ fldC x.fs, t.length ≤ 17 := by
              intro t ht
              obtain ⟨f, hf, rfl⟩ := List.mem_map.mp ht
              have hfo := fs_ok hO hxm f hf
              have n8 := hfo.1.len
              have w8 := (wd (sort_words hfo.2)).le
              rw [List.length_append, List.length_cons]
              omega
            refine ⟨_, rfl, _, rfl, rfl, _, rfl, [32, 44, 32], lq, fldC x.fs, congrArg V.str (by decide +kernel), rfl, SqL.of e4, ?_, by show 5 ≤ sizeLine; decide, fun l5 n5 => ?_⟩
            · have h1 := sum_le 17 _ hfl8
              have h2 : (fldC x.fs).length = x.fs.length := by unfold fldC; rw [List.length_map]
              simp only [List.length_cons, List.length_nil]
              omega
            rw [wk_eq x] at *
            have s5 := same_new (o := .lst (wV (grpK x))) n5
            have e5 : (upd H4 l5 (.lst (wV (grpK x)))) l5 = some (.lst (wV (grpK x))) := upd_same
            generalize upd H4 l5 (.lst (wV (grpK x))) = H5 at *
            have s25 := s24.trans s5
            refine ⟨lw, l5, _, _, rfl, rfl, s25 _ _ ew2, e5, ?_, fun l6 n6 => ?_⟩
            · rw [wV_len, wV_len]
              unfold grp1 grp2 grp3 grpK
              simp only [List.length_append, List.length_map, List.length_cons, List.length_nil]
              have := kinds_len (D.kinds.take i)
              unfold grpK at this
              rw [this, List.length_take]
              omega
            refine ⟨l6, _, _, _, rfl, s2.trans (s25.trans (same_new n6)), ?_⟩
            rw [upd_same, ← wV_app]
            congr 3
            rw [List.take_succ, hxi]
            simp
          · rintro σ H2 ⟨lw, v2, v3, v4, rfl, s2, ew2⟩
            rw [lks, List.take_length] at ew2
            have ew2' : H2 lw = some (.lst (wV (grp D))) := ew2
            have gl := grp_len hO
            refine ⟨rfl, _, rfl, lw, rfl, ⟨_, SqL.of ew2'⟩, ?_⟩
            refine lc_list (K := K) (a := lw) (xs := wV (grp D)) (fun i ys H' => H' = H2 ∧ ys = wV (((grp D).take i).filter fun g => !g.isEmpty)) ⟨rfl, rfl⟩ (fun i ys H' hi ⟨e1, e2⟩ => by
                subst e1 e2
                refine ⟨SqL.of ew2', ?_⟩
                rw [wV_len]
                have := List.length_filter_le (fun g : List (List Nat) => !g.isEmpty) ((grp D).take i)
                rw [List.length_take] at this
                omega) ?_ ?_
            · rintro i y ys H3 hy ⟨rfl, rfl⟩
              obtain ⟨g, hg, rfl⟩ : ∃ g, (grp D)[i]? = some g ∧ y = .str (S (TK.jn [32] g)) := by
                unfold wV txV at hy
                rw [List.getElem?_map, List.getElem?_map] at hy
                cases e : (grp D)[i]? with
                | none => rw [e] at hy; cases hy
                | some g => rw [e] at hy; exact ⟨g, rfl, (Option.some.inj hy).symm⟩
              have hgm : g ∈ grp D := List.mem_of_getElem? hg
              have hwe := word_empty hO hgm
              have hlt := (List.getElem?_eq_some_iff.mp hy).1
              refine ⟨trivial, _, rfl, rfl, _, rfl, ?_⟩
              rw [hwe]
              refine ite2 (fun hb => ⟨_, rfl, Nx.mk hlt ⟨rfl, ?_⟩⟩) (fun hb => Nx.mk hlt ⟨rfl, ?_⟩)
              · rw [List.take_succ, hg]
                simp only [Option.toList_some, List.filter_append]
                rw [wV_app]
                congr 1
                rw [List.filter_cons_of_pos (by simpa using hb)]
                rfl
              · rw [List.take_succ, hg]
                simp only [Option.toList_some, List.filter_append]
                rw [List.filter_cons_of_neg (by simpa using hb)]
                simp
            · rintro ys H3 ⟨rfl, rfl⟩ lq nlq
              rw [wV_len, List.take_length]
              refine ⟨[32], lq, ((grp D).filter fun g => !g.isEmpty).map (TK.jn [32]), congrArg V.str sp_S, rfl, SqL.of upd_same, ?_, ?_⟩
              · have h1 := sum_le 100 (((grp D).filter fun g => !g.isEmpty).map (TK.jn [32])) (fun t ht => by
                  obtain ⟨g, hg, rfl⟩ := List.mem_map.mp ht
                  have hgo := grp_ok hO g (List.mem_filter.mp hg).1
                  have h2 := jn_len [32] g
                  have h3 := sum_le 8 g (fun t ht => (hgo.2 t ht).le)
                  have h4 := hgo.1
                  simp only [List.length_cons, List.length_nil] at h2
                  omega)
                have h5 := List.length_filter_le (fun g : List (List Nat) => !g.isEmpty) (grp D)
                rw [List.length_map] at h1 ⊢
                simp only [List.length_cons, List.length_nil]
                omega
              · rw [text_eq hO]
                exact q _ (s2.trans (same_new nlq))
        · have K1 := hK.same s1
          refine ⟨_, rfl, by show 1 ≤ sizeLine; decide, fun l2 n2 => ?_⟩
          rw [w3_eq] at *
          have s2 := same_new (o := .lst (wV [[[59], cp "gate"]])) n2
          have e2 : (upd H1 l2 (.lst (wV [[[59], cp "gate"]]))) l2 = some (.lst (wV [[[59], cp "gate"]])) := upd_same
          generalize upd H1 l2 (.lst (wV [[[59], cp "gate"]])) = H2 at *
          refine ⟨lw, l2, _, _, rfl, rfl, s2 _ _ ew, e2, ?_, fun l3 n3 => ?_⟩
          · rw [wV_len, wV_len]
            unfold grp1 grp2
            simp only [List.length_append, List.length_map, List.length_cons, List.length_nil]
            omega
          rw [← wV_app]
          have s3 := same_new (o := .lst (wV (grp1 D ++ grp2 D ++ [[[59], cp "gate"]]))) n3
          have e3 : (upd H2 l3 (.lst (wV (grp1 D ++ grp2 D ++ [[[59], cp "gate"]])))) l3 = some (.lst (wV (grp1 D ++ grp2 D ++ [[[59], cp "gate"]]))) := upd_same
          generalize upd H2 l3 (.lst (wV (grp1 D ++ grp2 D ++ [[[59], cp "gate"]]))) = H3 at *
          have K3 := K1.same (s2.trans s3)
          refine ⟨_, rfl, d, _, rfl, dget_of K3.dd K3.v8, l3, lg, _, _, rfl, rfl, e3, K3.eg, ?_, fun l4 n4 => ?_⟩
          · rw [wV_len]
            unfold grp1 grp2 strsV
            simp only [List.length_append, List.length_map, List.length_cons, List.length_nil]
            omega
          rw [← wV_strs, ← wV_app]
          generalize hgg : grp1 D ++ grp2 D ++ [[[59], cp "gate"]] ++ D.gates.map (fun z => [cp z]) = gg
          have hggl : gg.length ≤ 40 := by
            rw [← hgg]
            unfold grp1 grp2
            simp only [List.length_append, List.length_map, List.length_cons, List.length_nil]
            omega
          have s4 := same_new (o := .lst (wV gg)) n4
          have e4 : (upd H3 l4 (.lst (wV gg))) l4 = some (.lst (wV gg)) := upd_same
          generalize upd H3 l4 (.lst (wV gg)) = H4 at *
          refine ⟨by show 1 ≤ sizeLine; decide, fun l5 n5 => ?_⟩
          rw [w4_eq] at *
          have s5 := same_new (o := .lst (wV [[[59]]])) n5
          have e5 : (upd H4 l5 (.lst (wV [[[59]]]))) l5 = some (.lst (wV [[[59]]])) := upd_same
          generalize upd H4 l5 (.lst (wV [[[59]]])) = H5 at *
          refine ⟨l4, l5, _, _, rfl, rfl, s5 _ _ e4, e5, ?_, fun l6 n6 => ?_⟩
          · rw [wV_len, wV_len]
            simp only [List.length_cons, List.length_nil]
            omega
          rw [← wV_app, ← hgg]
          refine ⟨l6, rfl, s1.trans (s2.trans (s3.trans (s4.trans (s5.trans (same_new n6))))), ?_⟩
          rw [upd_same]
          congr 3
          unfold grp3
          simp
      · have K1 := hK.same s1
        refine ⟨_, rfl, _, rfl, d, _, rfl, dget_of K1.dd K1.v5, lw, lp, _, _, rfl, rfl, ew, K1.ep, ?_, fun l1 n1 => ?_⟩
        · rw [wV_len]
          unfold grp1 strsV
          simp only [List.length_map, List.length_cons, List.length_nil]
          omega
        rw [← wV_strs, ← wV_app]
        have s2 := same_new (o := .lst (wV (grp1 D ++ D.places.map (fun z => [cp z])))) n1
        have e2 : (upd H1 l1 (.lst (wV (grp1 D ++ D.places.map (fun z => [cp z]))))) l1 = some (.lst (wV (grp1 D ++ D.places.map (fun z => [cp z])))) := upd_same
        generalize upd H1 l1 (.lst (wV (grp1 D ++ D.places.map (fun z => [cp z])))) = H2 at *
        refine ⟨by show 1 ≤ sizeLine; decide, fun l2 n2 => ?_⟩
        rw [w2_eq] at *
        have s3 := same_new (o := .lst (wV [[[59], cp "marks"]])) n2
        have e3 : (upd H2 l2 (.lst (wV [[[59], cp "marks"]]))) l2 = some (.lst (wV [[[59], cp "marks"]])) := upd_same
        generalize upd H2 l2 (.lst (wV [[[59], cp "marks"]])) = H3 at *
        refine ⟨l1, l2, _, _, rfl, rfl, s3 _ _ e2, e3, ?_, fun l3 n3 => ?_⟩
        · rw [wV_len, wV_len]
          unfold grp1
          simp only [List.length_append, List.length_map, List.length_cons, List.length_nil]
          omega
        rw [← wV_app]
        generalize hgg : grp1 D ++ D.places.map (fun z => [cp z]) ++ [[[59], cp "marks"]] = gg
        have hggl : gg.length ≤ 40 := by
          rw [← hgg]
          unfold grp1
          simp only [List.length_append, List.length_map, List.length_cons, List.length_nil]
          omega
        have s4 := same_new (o := .lst (wV gg)) n3
        have e4 : (upd H3 l3 (.lst (wV gg))) l3 = some (.lst (wV gg)) := upd_same
        generalize upd H3 l3 (.lst (wV gg)) = H4 at *
        have K4 := K1.same (s2.trans (s3.trans s4))
        refine ⟨_, rfl, d, _, rfl, dget_of K4.dd K4.v6, l3, lm, _, _, rfl, rfl, e4, K4.em, ?_, fun l4 n4 => ?_⟩
        · rw [wV_len]
          unfold strsV
          rw [List.length_map]
          omega
        rw [← wV_strs, ← wV_app, ← hgg]
        refine ⟨l4, rfl, s1.trans (s2.trans (s3.trans (s4.trans (same_new n4)))), ?_⟩
        rw [upd_same]
        congr 3
    · refine ⟨_, rfl, d, _, rfl, dget_of hK.dd hK.v1, _, rfl, log_small (by omega), _, rfl, d, _, rfl, dget_of hK.dd hK.v2, _, rfl, log_small (by omega), _, rfl, d, _, rfl, dget_of hK.dd hK.v3, _, rfl, log_small (by omega), by show 7 ≤ sizeLine; decide, fun lw nlw => ?_⟩
      exact ⟨lw, rfl, same_new nlw, by rw [upd_same, w1_eq]⟩
end
end L3
namespace L3
open PySem L2
theorem bd4 (va vb vc vd : V) : ∃ kv, mergeK [] [(kS "place", va), (kS "mark", vb), (kS "number", vc), (kS "row", vd)] = kv ∧ valV kv (kS "place") = some va ∧ valV kv (kS "mark") = some vb ∧ valV kv (kS "number") = some vc ∧ valV kv (kS "row") = some vd := by
  refine ⟨_, rfl, ?_, ?_, ?_, ?_⟩
  · show valV (putK (putK (putK (putK [] (kS "place") va) (kS "mark") vb) (kS "number") vc) (kS "row") vd) _ = _
    rw [put_ne (by decide +kernel), put_ne (by decide +kernel), put_ne (by decide +kernel), put_eq]
  · show valV (putK (putK (putK (putK [] (kS "place") va) (kS "mark") vb) (kS "number") vc) (kS "row") vd) _ = _
    rw [put_ne (by decide +kernel), put_ne (by decide +kernel), put_eq]
  · show valV (putK (putK (putK (putK [] (kS "place") va) (kS "mark") vb) (kS "number") vc) (kS "row") vd) _ = _
    rw [put_ne (by decide +kernel), put_eq]
  · show valV (putK (putK (putK (putK [] (kS "place") va) (kS "mark") vb) (kS "number") vc) (kS "row") vd) _ = _
    rw [put_eq]
theorem pw_int (w : Nat) : (1 * 2 ^ ((w : Int)).toNat : Int) = ((2 ^ w : Nat) : Int) := by
  rw [Int.toNat_natCast, Int.one_mul]
  norm_cast
def spBounds : Sp := fun vs H Q _ => ∃ d ls D fn kvs lf lp lm lk lg ks st, ∃ n : Nat, vs = [.ref d, .ref ls, .int n] ∧ KpV H d D fn kvs lf lp lm lk lg ks ∧ D.width ≤ 24 ∧ H ls = some (.lst (strsV st)) ∧ (∀ s ∈ st, s ∈ sortL) ∧ st.length ≤ 1000 ∧ ∀ l H', Same H H' → H l = none → H' l = some (.lst (opsV (st.map (bnd D n)))) → Q (.ref l) H'
def spSR : Sp := fun vs H Q _ => ∃ q d Hb D fn kvs lf lp lm lk lg ks, ∃ n : Nat, vs = [.ref q, .ref d, .int n] ∧ Strm H q ∧ Same Hb H ∧ Hb q = none ∧ KpV Hb d D fn kvs lf lp lm lk lg ks ∧ ShOk D fn ∧ n ≤ 1000 ∧ ∀ u r H', RowV H' u r → RwOk D n r → Strm H' q → But q H H' → Q u H'
def spLine : Sp := fun vs H Q _ => ∃ d u D fn kvs lf lp lm lk lg ks r, ∃ n : Nat, vs = [.ref d, u] ∧ KpV H d D fn kvs lf lp lm lk lg ks ∧ ShOk D fn ∧ RowV H u r ∧ RwOk D n r ∧ n ≤ 1000 ∧ ∀ H', Same H H' → Q (.str (S (rowC D r))) H'
theorem pmapR {α β γ : Type} {R : α → γ → Prop} (f : β → γ) : ∀ {xs : List α} {ys : List β}, Paired R xs (ys.map f) → Paired (fun a b => R a (f b)) xs ys
  | [], [], _ => .nil
  | _ :: _, _ :: _, .cons h t => .cons h (pmapR f t)
theorem same_but2 {H Hc H' : Hp} {a : Addr} (na : H a = none) (sc : Same H Hc) (b : But a Hc H') : Same H H' := fun c o e => b c o (sc c o e) (ne_of_none e na)
section
variable {P : Program} {w : World} {K : PySem.W.Frag} {mg : Str → Option Value} {base : Heap} {C Cp : Addr} {tb tm : Tok}
theorem scBounds : FnScope ["_law_table", "_law_sorts", "_law_rows", "_law_some"] ["_law_table", "_law_sorts", "_law_rows"] (defScope sBounds) := ⟨rfl, rfl, rfl, by decide +kernel, rfl, by decide +kernel, by decide +kernel⟩
theorem ndSS : (["_law_sort", "_law_some"] : List Str).Nodup := by decide +kernel
set_option maxHeartbeats 4000000 in
theorem ok_bounds {f : Addr} {fd : FuncData} (F : Fun K "_law_bounds" "_law_bounds" sBounds f fd) (B : Bl mg) : FnOk P w K mg base CX0 2 f fd ["_law_table", "_law_sorts", "_law_rows"] spBounds := by
  refine F.ok scBounds (fun vs H Q E h => ?_) (fun cdv A outer s H vs Q E hr h => ?_)
  · obtain ⟨d, ls, D, fn, kvs, lf, lp, lm, lk, lg, ks, st, n, rfl, _⟩ := h
    rfl
  · obtain ⟨d, ls, D, fn, kvs, lf, lp, lm, lk, lg, ks, st, n, rfl, hK, hw, hls, hst, hsl, q⟩ := h
    have sz : (100000 : Nat) ≤ sizeLine := by decide
    have hu := hu_of hr
    refine ⟨_, pss_cons (ps_set (i := 3) scBounds.nd rfl (Or.inr rfl) (pe_disp (pps_cons pe_str (pe_callB call_len_seq (by rfl) B.len PySem.boot_len (pa_cons (pe_dget hu (pv 0) pe_str (fun _ _ => rfl)) pa_nil)) (pps_cons pe_str (pe_callB call_len_seq (by rfl) B.len PySem.boot_len (pa_cons (pe_dget hu (pv 0) pe_str (fun _ _ => rfl)) pa_nil)) (pps_cons pe_str (pe_op op_shl pe_int (pe_dget hu (pv 0) pe_str (fun _ _ => rfl))) (pps_cons pe_str (pe_op op_add (pv 2) pe_int) pps_nil)))) rfl rfl (by intro z; cases z) (by show 4 ≤ 15; decide)))
      (pss_one (ps_ret (pe_lc (N' := ["_law_sort", "_law_some"]) (ix := [none, some 3]) (sc0 := defScope sBounds) (N := ["_law_table", "_law_sorts", "_law_rows", "_law_some"]) rfl (by decide +kernel) (pi_list (pv 1)) (fun C' cl s H fp => pg_name (i := 0) ndSS rfl (Or.inl rfl) (.inr rfl)) (fun _ _ _ _ _ => pf_nil) (fun C' cl s H fp => pe_dget hu (pv 1) (pv 0) (fun _ _ => rfl))))), ?_⟩
    refine fun ds nds => ?_
    have s1 := same_new (o := .dK []) nds
    have e1 : (upd H ds (.dK [])) ds = some (.dK []) := upd_same
    have K1 := hK.same s1
    have hdsx : ∀ o, (upd H ds o) ds = some o := fun o => upd_same
    refine ⟨_, rfl, d, _, rfl, dget_of K1.dd K1.v5, lp, _, rfl, .inl (SqL.of K1.ep), _, rfl, d, _, rfl, dget_of K1.dd K1.v6, lm, _, rfl, .inl (SqL.of K1.em), _, rfl, d, _, rfl, dget_of K1.dd K1.v1, _, _, rfl, rfl, ⟨by omega, by omega, by decide⟩, _, rfl, _, _, rfl, rfl, e1, ?_⟩
    obtain ⟨kv, ekv, h1, h2, h3, h4⟩ := bd4 (.int ((strsV D.places).length : Nat)) (.int ((strsV D.marks).length : Nat)) (.int (1 * 2 ^ ((D.width : Int)).toNat)) (.int ((n : Int) + 1))
    refine ⟨[(kS "place", .int ((strsV D.places).length : Nat)), (kS "mark", .int ((strsV D.marks).length : Nat)), (kS "number", .int (1 * 2 ^ ((D.width : Int)).toNat)), (kS "row", .int ((n : Int) + 1))], rfl, by show 4 ≤ 15; decide, ?_⟩
    rw [ekv]
    have hv : ∀ s ∈ sortL, valV kv (Sum.inr s) = some (.int (bnd D n s : Nat)) := by
      intro s hs
      have hs' : s ∈ (["place", "mark", "number", "row"] : List Str) := hs
      simp only [List.mem_cons, List.not_mem_nil, or_false] at hs'
      rcases hs' with rfl | rfl | rfl | rfl
      · refine h1.trans ?_
        unfold bnd strsV
        rw [if_pos rfl, List.length_map]
      · refine h2.trans ?_
        unfold bnd strsV
        rw [if_neg (by decide +kernel), if_pos rfl, List.length_map]
      · refine h3.trans ?_
        unfold bnd
        rw [if_neg (by decide +kernel), if_neg (by decide +kernel), if_pos rfl, pw_int]
      · refine h4.trans ?_
        unfold bnd
        rw [if_neg (by decide +kernel), if_neg (by decide +kernel), if_neg (by decide +kernel)]
        rfl
    have s2 : Same H (upd (upd H ds (.dK [])) ds (.dK kv)) := same_mut nds s1
    have e2 : (upd (upd H ds (.dK [])) ds (.dK kv)) ds = some (.dK kv) := upd_same
    generalize upd (upd H ds (.dK [])) ds (.dK kv) = H2 at *
    refine ⟨_, rfl, ls, rfl, ⟨_, SqL.of (s2 _ _ hls)⟩, ?_⟩
    refine lc_list (K := K) (a := ls) (xs := strsV st) (fun i ys H' => H' = H2 ∧ ys = opsV ((st.take i).map (bnd D n))) ⟨rfl, rfl⟩ (fun i ys H' hi ⟨a1, a2⟩ => by
        subst a1 a2
        refine ⟨SqL.of (s2 _ _ hls), ?_⟩
        unfold opsV
        rw [List.length_map, List.length_map, List.length_take]
        omega) ?_ ?_
    · rintro i x ys H3 hx ⟨rfl, rfl⟩
      obtain ⟨s, hsi, rfl⟩ : ∃ s, st[i]? = some s ∧ x = .str s := by
        unfold strsV at hx
        rw [List.getElem?_map] at hx
        cases e : st[i]? with
        | none => rw [e] at hx; cases hx
        | some g => rw [e] at hx; exact ⟨g, rfl, (Option.some.inj hx).symm⟩
      refine ⟨⟨rfl, trivial⟩, tAny_T ?_⟩
      refine ⟨_, rfl, _, rfl, ds, _, rfl, dget_of e2 (hv s (hst s (List.mem_of_getElem? hsi))), Nx.mk (List.getElem?_eq_some_iff.mp hx).1 ⟨rfl, ?_⟩⟩
      rw [List.take_succ, hsi]
      unfold opsV
      simp
    · rintro ys H3 ⟨rfl, rfl⟩ l nl
      have el : (strsV st).length = st.length := by unfold strsV; rw [List.length_map]
      rw [el, List.take_length]
      exact q l _ (s2.trans (same_new nl)) (s2.free nl) upd_same
theorem scSR : FnScope ["_law_stream_here", "_law_table", "_law_rows", "_law_name", "_law_sorts"] ["_law_stream_here", "_law_table", "_law_rows"] (defScope sShapeRow) := ⟨rfl, rfl, rfl, by decide +kernel, rfl, by decide +kernel, by decide +kernel⟩
theorem ndBS : (["_law_bound", "_law_stream_here"] : List Str).Nodup := by decide +kernel
set_option maxHeartbeats 4000000 in
theorem ok_sr {f : Addr} {fd : FuncData} (F : Fun K "_law_shape_row" "_law_shape_row" sShapeRow f fd) (B : Bl mg) (TK' : Fn P w K mg base "_law_take" 1 ["_law_stream_here", "_law_many"] spTake) (BD : Fn P w K mg base "_law_bounds" 2 ["_law_table", "_law_sorts", "_law_rows"] spBounds) : FnOk P w K mg base CX0 3 f fd ["_law_stream_here", "_law_table", "_law_rows"] spSR := by
  refine F.ok scSR (fun vs H Q E h => ?_) (fun cdv A outer s H vs Q E hr h => ?_)
  · obtain ⟨q, d, Hb, D, fn, kvs, lf, lp, lm, lk, lg, ks, n, rfl, _⟩ := h
    rfl
  · obtain ⟨q, d, Hb, D, fn, kvs, lf, lp, lm, lk, lg, ks, n, rfl, hq, sb, nq, hK, hO, hn, qq⟩ := h
    have sz : (100000 : Nat) ≤ sizeLine := by decide
    have hu := hu_of hr
    have hr1 : Room 1 _ := hr.mono (by decide)
    refine ⟨_, pss_cons (ps_asg (pe_ix ix_list (pe_dget hu (pv 1) pe_str (fun _ _ => rfl)) (pe_fn TK' hr1 rfl (pa_cons (pv 0) (pa_cons (pe_callB call_len_seq (by rfl) B.len PySem.boot_len (pa_cons (pe_dget hu (pv 1) pe_str (fun _ _ => rfl)) pa_nil)) pa_nil))) (fun _ _ => rfl)) (pg_tup rfl (pgs_cons (pg_name (i := 3) scSR.nd rfl (Or.inl rfl)) (pgs_cons (pg_name (i := 4) scSR.nd rfl (Or.inl rfl)) pgs_nil))))
      (pss_one (ps_ret (pe_tup (pa_cons (pv 3) (pa_cons (pe_callTy call_tuple_of (by rfl) B.tuple boot_tuple' (pa_cons (pe_lc (N' := ["_law_bound", "_law_stream_here"]) (ix := [none, some 0]) (sc0 := defScope sShapeRow) (N := ["_law_stream_here", "_law_table", "_law_rows", "_law_name", "_law_sorts"]) rfl (by decide +kernel) (pi_list (pe_fn BD hr rfl (pa_cons (pv 1) (pa_cons (pv 4) (pa_cons (pv 2) pa_nil))))) (fun C' cl s H fp => pg_name (i := 0) ndBS rfl (Or.inl rfl) (.inr rfl)) (fun _ _ _ _ _ => pf_nil) (fun C' cl s H fp => pe_fn TK' hr1 rfl (pa_cons (pv 1) (pa_cons (pv 0) pa_nil)))) pa_nil)) pa_nil))))), ?_⟩
    have K1 := hK.same sb
    have lks := hK.kd.length
    have k1 := hO.k1
    have k8 := hO.fm.k8
    refine ⟨_, rfl, d, _, rfl, dget_of K1.dd K1.v7, _, rfl, _, rfl, d, _, rfl, dget_of K1.dd K1.v7, lk, _, rfl, .inl (SqL.of K1.ek), q, _, rfl, hq, by omega, by omega, fun j H1 hj g1 b1 => ?_⟩
    have s1 := same_but2 nq sb b1
    have K2 := hK.same s1
    have hju : ks[j]? = some ks[j] := List.getElem?_eq_getElem hj
    obtain ⟨x, hxj, pt, l, eu, hpt, hl⟩ := pget K2.kd hju
    refine ⟨lk, _, _, _, rfl, rfl, SqL.of K2.ek, atI_nat hju, pt, _, eu, SqT.of hpt, rfl, _, _, rfl, _, _, rfl, rfl, ?_⟩
    have hxm : x ∈ D.kinds := List.mem_of_getElem? hxj
    obtain ⟨st, efs, st3, hst⟩ := hO.kf x hxm
    have f3 := hO.f3
    have esn : x.fs.map (·.2) = st := by rw [efs]; exact map_snd_zip_le _ _ (by omega)
    rw [esn] at hl
    refine ⟨_, rfl, _, rfl, _, rfl, _, rfl, d, l, D, fn, kvs, lf, lp, lm, lk, lg, ks, st, n, rfl, K2, hO.w24, hl, fun s hs => (hst s hs).1, by omega, fun lb H2 s2 nlb elb => ?_⟩
    have g2 := g1.same s2
    have qlb : q ≠ lb := g1.ne nlb
    refine ⟨lb, rfl, ⟨_, SqL.of elb⟩, ?_⟩
    have elen : (opsV (st.map (bnd D n))).length = st.length := by unfold opsV; rw [List.length_map, List.length_map]
    refine lc_list (K := K) (a := lb) (xs := opsV (st.map (bnd D n))) (fun i ys H' => ∃ ops : List Nat, Strm H' q ∧ But q H2 H' ∧ ys = opsV ops ∧ ops.length = i ∧ i ≤ st.length ∧ Paired (fun o s => o < bnd D n s) ops (st.take i)) ⟨[], g2, But.refl _ _, rfl, rfl, Nat.zero_le _, .nil⟩ (fun i ys H' hi ⟨ops, _, b', e1, e2, e3, _⟩ => ⟨SqL.of (b' _ _ elb qlb.symm), by rw [e1]; unfold opsV; rw [List.length_map]; omega⟩) ?_ ?_
    · rintro i y ys H3 hy ⟨ops, g3, b3, rfl, lo, hi, hp⟩
      obtain ⟨bb, hbb, rfl⟩ := ops_at hy
      obtain ⟨s, hsi, rfl⟩ : ∃ s, st[i]? = some s ∧ bb = bnd D n s := by
        rw [List.getElem?_map] at hbb
        cases e : st[i]? with
        | none => rw [e] at hbb; cases hbb
        | some g => rw [e] at hbb; exact ⟨g, rfl, (Option.some.inj hbb).symm⟩
      have hilt : i < st.length := (List.getElem?_eq_some_iff.mp hsi).1
      have hs := hst s (List.mem_of_getElem? hsi)
      have hpos : 0 < bnd D n s ∧ bnd D n s < 18446744073709551616 := by
        have p1 := hO.p1
        have p4 := hO.fm.p4
        have m3 := hO.fm.m3
        have h2 : 2 ^ D.width ≤ 2 ^ 24 := Nat.pow_le_pow_right (by decide) hO.w24
        have h3 : 0 < 2 ^ D.width := Nat.pow_pos (by decide)
        unfold bnd
        by_cases e1 : s = "place"
        · rw [if_pos e1]; omega
        rw [if_neg e1]
        by_cases e2 : s = "mark"
        · rw [if_pos e2]
          have := hs.2 e2
          omega
        rw [if_neg e2]
        split <;> omega
      refine ⟨⟨rfl, trivial⟩, tAny_T ?_⟩
      refine ⟨_, rfl, _, rfl, q, bnd D n s, rfl, g3, hpos.1, hpos.2, fun o H4 ho g4 b4 => ?_⟩
      refine Nx.mk (List.getElem?_eq_some_iff.mp hy).1 ⟨ops ++ [o], g4, b3.trans b4, by unfold opsV; rw [List.map_append]; rfl, by rw [List.length_append, lo]; rfl, hilt, ?_⟩
      rw [List.take_succ, hsi]
      exact psnoc (R := fun o s => o < bnd D n s) ho hp
    · rintro ys H3 ⟨ops, g3, b3, rfl, lo, hi, hp⟩ lq nlq
      rw [elen, List.take_length] at hp
      have s4 := same_new (o := .lst (opsV ops)) nlq
      have e4 : (upd H3 lq (.lst (opsV ops))) lq = some (.lst (opsV ops)) := upd_same
      have g4 := g3.same s4
      generalize upd H3 lq (.lst (opsV ops)) = H4 at *
      refine ⟨lq, _, rfl, .inl ⟨SqL.of e4, fun t nt => ?_⟩⟩
      have s5 := same_new (o := .tup (opsV ops)) nt
      have e5 : (upd H4 t (.tup (opsV ops))) t = some (.tup (opsV ops)) := upd_same
      have g5 := g4.same s5
      generalize upd H4 t (.tup (opsV ops)) = H5 at *
      refine ⟨by show 2 ≤ sizeLine; decide, fun p np => ?_⟩
      have s6 := same_new (o := .tup [.str x.name, .ref t]) np
      rw [← esn] at hp
      exact qq _ ⟨x, ops⟩ _ ⟨p, t, rfl, upd_same, s6 _ _ e5⟩ ⟨hxm, pmapR (R := fun o s => o < bnd D n s) (fun f : Str × Str => f.2) hp⟩ (g5.same s6) ((b1.trans ((but_of s2).trans b3)).same (s4.trans (s5.trans s6)))
end
end L3
namespace L3
open PySem L2
theorem nd_at {l : List Str} (nd : l.Nodup) {i j : Nat} {z : Str} (h : l[i]? = some z) (h' : l[j]? = some z) : i = j := by
  rcases Nat.lt_trichotomy i j with hl | hl | hl
  · exact absurd h (nd_first nd h' i hl)
  · exact hl
  · exact absurd h' (nd_first nd h j hl)
section
variable {P : Program} {w : World} {K : PySem.W.Frag} {mg : Str → Option Value} {base : Heap} {C Cp : Addr} {tb tm : Tok}
theorem scLine : FnScope ["_law_table", "_law_row", "_law_name", "_law_operands", "_law_words", "_law_sort", "_law_operand"] ["_law_table", "_law_row"] (defScope sLine) := ⟨rfl, rfl, rfl, by decide +kernel, rfl, by decide +kernel, by decide +kernel⟩
theorem ndON : (["_law_one", "_law_name"] : List Str).Nodup := by decide +kernel
set_option maxHeartbeats 8000000 in
theorem ok_line {f : Addr} {fd : FuncData} (F : Fun K "_law_line" "_law_line" sLine f fd) (B : Bl mg) (B4 : Bl4 mg) : FnOk P w K mg base CX0 2 f fd ["_law_table", "_law_row"] spLine := by
  refine F.ok scLine (fun vs H Q E h => ?_) (fun cdv A outer s H vs Q E hr h => ?_)
  · obtain ⟨d, u, D, fn, kvs, lf, lp, lm, lk, lg, ks, r, n, rfl, _⟩ := h
    rfl
  · obtain ⟨d, u, D, fn, kvs, lf, lp, lm, lk, lg, ks, r, n, rfl, hK, hO, ⟨p, t, rfl, hp, ht⟩, hRk, hn, q⟩ := h
    have sz : (100000 : Nat) ≤ sizeLine := by decide
    have hu := hu_of hr
    obtain ⟨hk, hops⟩ := id hRk
    have sl := shown_len hRk
    have ol := hops.length
    have f3 := (hO.fm.kf _ hk).2
    refine ⟨_, pss_cons (ps_asg (pv 1) (pg_tup rfl (pgs_cons (pg_name (i := 2) scLine.nd rfl (Or.inr rfl)) (pgs_cons (pg_name (i := 3) scLine.nd rfl (Or.inl rfl)) pgs_nil))))
      (pss_cons (ps_set (i := 4) scLine.nd rfl (Or.inl rfl) (pe_lst (pa_cons (pv 2) pa_nil)))
      (pss_cons (ps_for PassesOwn.never rfl (pi_zipB false true rfl B4.zip (pa_cons (pe_ix ix_list (pe_lc (N' := ["_law_one", "_law_name"]) (ix := [none, some 2]) (sc0 := defScope sLine) (N := ["_law_table", "_law_row", "_law_name", "_law_operands", "_law_words", "_law_sort", "_law_operand"]) rfl (by decide +kernel) (pi_list (pe_dget hu (pv 0) pe_str (fun _ _ => rfl))) (fun C' cl s H fp => pg_name (i := 0) ndON rfl (Or.inl rfl) (.inr rfl)) (fun C' cl s H fp => pf_one (pt_cmpR op_eq (pe_ix (ix_tupK (K := K) rfl) (pv 0) pe_int (fun _ _ => rfl)) (pv 1) (nomark _))) (fun C' cl s H fp => pe_ix (ix_tupK (K := K) rfl) (pv 0) pe_int (fun _ _ => rfl))) pe_int (fun _ _ => rfl)) (pa_cons (pv 3) pa_nil))) (pg_tup rfl (pgs_cons (pg_name (i := 5) scLine.nd rfl (Or.inl rfl)) (pgs_cons (pg_name (i := 6) scLine.nd rfl (Or.inl rfl)) pgs_nil)))
        (pss_one (ps_if (PW.pt (pw_or (pt_cmpR op_eq (pv 5) pe_str (nomark _)) (pw_or1 (pt_cmpR op_eq (pv 5) pe_str (nomark _)))))
          (pss_one (ps_expr (pe_bm PySem.F.plainAttrs_list PySem.F.slot_list_append PySem.F.type_list_append mt_append (pv 4) (pa_cons (pe_ix ix_list (pe_dget hu (pv 0) (pe_op op_add_str (pv 5) pe_str) (fun _ _ => rfl)) (pv 6) (fun _ _ => rfl)) pa_nil))))
          (pss_one (ps_expr (pe_bm PySem.F.plainAttrs_list PySem.F.slot_list_append PySem.F.type_list_append mt_append (pv 4) (pa_cons (pe_callTy call_str_int (by rfl) B.str boot_str' (pa_cons (pv 6) pa_nil)) pa_nil)))))))
      (pss_one (ps_ret (pe_bm PySem.F.plainAttrs_str PySem.F.slot_str_join PySem.F.type_str_join mt_join pe_str (pa_cons (pv 4) pa_nil)))))), ?_⟩
    refine ⟨_, rfl, p, _, rfl, SqT.of hp, rfl, _, _, rfl, _, _, rfl, rfl, ?_⟩
    refine ⟨_, rfl, by show 1 ≤ sizeLine; decide, fun lw nlw => ?_⟩
    have s1 := same_new (o := .lst [.str r.k.name]) nlw
    have e1 : (upd H lw (.lst [.str r.k.name])) lw = some (.lst [.str r.k.name]) := upd_same
    generalize upd H lw (.lst [V.str r.k.name]) = H1 at *
    have K1 := hK.same s1
    obtain ⟨j, hj⟩ := at_mem hk
    obtain ⟨uj, huj, pj, lj, rfl, hpj0, hlj0⟩ := pgetR hK.kd hj
    have hpj := s1 _ _ hpj0
    have hlj := s1 _ _ hlj0
    have nljw : lj ≠ lw := ne_of_none hlj0 nlw
    have hjn : (D.kinds.map Kn.name)[j]? = some r.k.name := by rw [List.getElem?_map, hj]; rfl
    have lks := hK.kd.length
    have hjl : j < ks.length := (List.getElem?_eq_some_iff.mp huj).1
    refine ⟨_, rfl, d, _, rfl, dget_of K1.dd K1.v7, lk, rfl, ⟨_, SqL.of K1.ek⟩, ?_⟩
    have k8 := hO.fm.k8
    refine lc_list (K := K) (a := lk) (xs := ks) (fun i ys H' => H' = H1 ∧ ys = if j < i then [.ref lj] else []) ⟨rfl, by rw [if_neg (by omega)]⟩ (fun i ys H' hi ⟨a1, a2⟩ => by
        subst a1 a2
        refine ⟨SqL.of K1.ek, ?_⟩
        split
        · show 1 ≤ sizeLine
          omega
        · show 0 ≤ sizeLine
          omega) ?_ ?_
    · rintro i x ys H' hx ⟨rfl, rfl⟩
      obtain ⟨y, hy, py, ly, rfl, hpy, hly⟩ := pget K1.kd hx
      have hlt := (List.getElem?_eq_some_iff.mp hx).1
      refine ⟨⟨rfl, trivial⟩, ?_⟩
      refine ⟨_, rfl, py, _, _, _, rfl, rfl, SqT.of hpy, atI0, _, rfl, rfl, _, rfl, ite2 (fun hb => ?_) (fun hb => ?_)⟩
      · have hyn : y.name = r.k.name := V.str.inj (of_decide_eq_true hb)
        have hin : (D.kinds.map Kn.name)[i]? = some r.k.name := by rw [List.getElem?_map, hy]; exact congrArg some hyn
        have eij := nd_at hO.fm.kn hin hjn
        subst eij
        have e2 : ly = lj := by
          have e3 : py = pj := V.ref.inj (Option.some.inj (hx.symm.trans huj))
          subst e3
          have h5 := HO.tup.inj (Option.some.inj (hpy.symm.trans hpj))
          exact V.ref.inj (List.cons.inj (List.cons.inj h5).2).1
        subst e2
        refine ⟨_, rfl, py, _, _, _, rfl, rfl, SqT.of hpy, atI1, Nx.mk hlt ⟨rfl, ?_⟩⟩
        rw [if_neg (by omega), if_pos (by omega)]
        rfl
      · have nij : i ≠ j := by
          rintro rfl
          rw [hj] at hy
          cases hy
          exact hb (decide_eq_true rfl)
        refine Nx.mk hlt ⟨rfl, ?_⟩
        by_cases hji : j < i
        · rw [if_pos hji, if_pos (by omega)]
        · rw [if_neg hji, if_neg (by omega)]
    rintro ys H' ⟨rfl, rfl⟩ lo nlo
    rw [if_pos hjl]
    have s2 := same_new (o := .lst [.ref lj]) nlo
    have e2 : (upd H' lo (.lst [.ref lj])) lo = some (.lst [.ref lj]) := upd_same
    have ew2 := s2 _ _ e1
    have hlj2 := s2 _ _ hlj
    generalize upd H' lo (.lst [V.ref lj]) = H2 at *
    have s02 := s1.trans s2
    refine ⟨lo, _, _, _, rfl, rfl, SqL.of e2, atI0, _, rfl, lj, t, rfl, ⟨_, SqL.of hlj2⟩, ⟨_, SqT.of (s02 _ _ ht)⟩, ?_⟩
    refine for_zipB (b1 := false) (b2 := true) (K := K) (l1 := lj) (l2 := t) (xs := strsV (r.k.fs.map (·.2))) (ys := opsV r.ops) (by unfold strsV opsV; rw [List.length_map, List.length_map, List.length_map, ol]) (fun i σ H' => ∃ v5 v6 : Option V, σ = [some (.ref d), some (.ref p), some (.str r.k.name), some (.ref t), some (.ref lw), v5, v6] ∧ Same H H' ∧ (∀ b o, H2 b = some o → b ≠ lw → H' b = some o) ∧ H' lw = some (.lst (txV ((rowL D r).take (i + 1))))) ⟨_, _, rfl, s02, fun b o e _ => e, ?_⟩ (fun i σ H' hi ⟨_, _, _, s', k', _⟩ => ⟨SqL.of (k' _ _ hlj2 nljw), SqT.of (s' _ _ ht)⟩) ?_ ?_
    · rw [ew2]
      unfold rowL txV
      simp [S_cp]
    · rintro i x y σ H3 T1 hx hy nT ⟨v5, v6, rfl, s3, k3, ew3⟩
      obtain ⟨fl, hfl, rfl⟩ : ∃ g, r.k.fs[i]? = some g ∧ x = .str g.2 := by
        unfold strsV at hx
        rw [List.getElem?_map, List.getElem?_map] at hx
        cases e : r.k.fs[i]? with
        | none => rw [e] at hx; cases hx
        | some g => rw [e] at hx; exact ⟨g, rfl, (Option.some.inj hx).symm⟩
      obtain ⟨o, hoo, rfl⟩ := ops_at hy
      obtain ⟨fl3, hfl3, hb⟩ := pget hops hoo
      have e2 : fl3 = fl := by
        rw [hfl] at hfl3
        exact (Option.some.inj hfl3).symm
      subst e2
      have hsh := shown_at (D := D) hoo hfl
      have hi3 : i < r.k.fs.length := (List.getElem?_eq_some_iff.mp hfl).1
      have s4 := same_new (o := .tup [.str fl3.2, .int (o : Int)]) nT
      have s04 := s3.trans s4
      have K4 := hK.same s04
      have ew4 := s4 _ _ ew3
      refine ⟨T1, _, rfl, SqT.of upd_same, rfl, _, _, rfl, _, _, rfl, rfl, ?_⟩
      generalize upd H3 T1 (.tup [V.str fl3.2, .int (o : Int)]) = H4 at *
      have rl : (rowL D r).length = r.k.fs.length + 1 := by unfold rowL; rw [List.length_map, List.length_cons, sl]
      have hnext : txV ((rowL D r).take (i + 1)) ++ [.str (shO D fl3.2 o)] = txV ((rowL D r).take (i + 2)) := by
        have h1 : (rowL D r)[i + 1]? = some (cp (shO D fl3.2 o)) := by
          unfold rowL
          rw [List.getElem?_map, List.getElem?_cons_succ, hsh]
          rfl
        rw [List.take_succ (i := i + 1), h1]
        unfold txV
        simp [S_cp]
      have llen : (txV ((rowL D r).take (i + 1))).length < sizeLine := by
        unfold txV
        rw [List.length_map, List.length_take]
        omega
      have fin : ∃ v5' v6' : Option V, [some (V.ref d), some (.ref p), some (.str r.k.name), some (.ref t), some (.ref lw), some (.str fl3.2), some (.int (o : Int))] = [some (.ref d), some (.ref p), some (.str r.k.name), some (.ref t), some (.ref lw), v5', v6'] ∧ Same H (upd H4 lw (.lst (txV ((rowL D r).take (i + 1)) ++ [.str (shO D fl3.2 o)]))) ∧ (∀ b o', H2 b = some o' → b ≠ lw → (upd H4 lw (.lst (txV ((rowL D r).take (i + 1)) ++ [.str (shO D fl3.2 o)]))) b = some o') ∧ (upd H4 lw (.lst (txV ((rowL D r).take (i + 1)) ++ [.str (shO D fl3.2 o)]))) lw = some (.lst (txV ((rowL D r).take (i + 1 + 1)))) := by
        refine ⟨_, _, rfl, same_mut nlw s04, fun b o' e nb => ?_, ?_⟩
        · rw [upd_ne nb]
          exact s4 _ _ (k3 _ _ e nb)
        · rw [upd_same, hnext]
      refine ⟨_, rfl, rfl, _, rfl, ite2 (fun h => ?_) (fun h => ?_)⟩
      · have h' : fl3.2 = "place" := V.str.inj (of_decide_eq_true h)
        refine iteT ?_
        have ho : o < D.places.length := by unfold bnd at hb; rw [if_pos h'] at hb; exact hb
        have esh : shO D fl3.2 o = D.places.getD o "" := by unfold shO; rw [if_pos h']
        refine ⟨_, rfl, .inl ⟨rfl, _, SqL.of ew4⟩, _, rfl, _, rfl, _, _, rfl, rfl, ?_, d, _, rfl, dget_of K4.dd ?_, _, rfl, lp, _, _, _, rfl, rfl, SqL.of K4.ep, atI_nat (getD_at ho), lw, _, _, rfl, rfl, ew4, llen, ?_⟩
        · rw [h']
          decide +kernel
        · rw [h']
          exact K4.v5
        · rw [← esh]
          exact fin
      have n1 : fl3.2 ≠ "place" := fun e => h (decide_eq_true (congrArg V.str e))
      refine ⟨_, rfl, rfl, _, rfl, ite2 (fun h => ?_) (fun h => ?_)⟩
      · have h' : fl3.2 = "mark" := V.str.inj (of_decide_eq_true h)
        have ho : o < D.marks.length := by unfold bnd at hb; rw [if_neg n1, if_pos h'] at hb; exact hb
        have esh : shO D fl3.2 o = D.marks.getD o "" := by unfold shO; rw [if_neg n1, if_pos h']
        refine ⟨_, rfl, .inl ⟨rfl, _, SqL.of ew4⟩, _, rfl, _, rfl, _, _, rfl, rfl, ?_, d, _, rfl, dget_of K4.dd ?_, _, rfl, lm, _, _, _, rfl, rfl, SqL.of K4.em, atI_nat (getD_at ho), lw, _, _, rfl, rfl, ew4, llen, ?_⟩
        · rw [h']
          decide +kernel
        · rw [h']
          exact K4.v6
        · rw [← esh]
          exact fin
      have n2 : fl3.2 ≠ "mark" := fun e => h (decide_eq_true (congrArg V.str e))
      have esh : shO D fl3.2 o = (toString (o : Int) : Str) := by unfold shO; rw [if_neg n1, if_neg n2]
      refine ⟨_, rfl, .inl ⟨rfl, _, SqL.of ew4⟩, _, rfl, _, rfl, log_small (bnd_lt hO.w24 hn hb n1 n2), lw, _, _, rfl, rfl, ew4, llen, ?_⟩
      rw [← esh]
      exact fin
    · rintro σ H3 ⟨v5, v6, rfl, s3, k3, ew3⟩
      have rl : (rowL D r).length = r.k.fs.length + 1 := by unfold rowL; rw [List.length_map, List.length_cons, sl]
      have etk : (rowL D r).take ((strsV (r.k.fs.map (·.2))).length + 1) = rowL D r := by
        refine List.take_of_length_le ?_
        unfold strsV
        rw [List.length_map, List.length_map]
        omega
      rw [etk] at ew3
      refine ⟨rfl, _, rfl, [32], lw, rowL D r, congrArg V.str sp_S, rfl, SqL.of ew3, ?_, q _ s3⟩
      have h1 := sum_le 8 (rowL D r) fun t ht => (rowL_ok hO.nm hO.w24 hn hRk t ht).1
      have h2 := rowL_len hO.fm hRk
      simp only [List.length_cons, List.length_nil]
      omega
end
end L3
namespace L3
open PySem L2
def rowD (r : Rw) : PyData := .tuple [.str r.k.name, .tuple (r.ops.map fun (n : Nat) => PyData.int (n : Int))]
theorem name_okS {z : Str} (h : NameS z) : okS z = true := by
  unfold okS
  simp only [PyData.canLay0]
  unfold PyData.strOk
  rw [Array.all_eq_true']
  intro c hc
  have := h.2.2.2 c (by simpa using hc)
  exact decide_eq_true (by omega)
theorem td_ops {H : Hp} : ∀ l : List Nat, TdAll H (opsV l) (l.map fun (n : Nat) => PyData.int (n : Int))
  | [] => .nil
  | n :: r => .cons (.int _) (td_ops r)
theorem td_row {H : Hp} {u : V} {r : Rw} (h : RowV H u r) (hn : NameS r.k.name) : Td H u (rowD r) := by
  obtain ⟨p, t, rfl, hp, ht⟩ := h
  exact .tup hp (.cons (.str _ (name_okS hn)) (.cons (.tup ht (td_ops r.ops)) .nil))
theorem td_rows {H : Hp} : ∀ {us : List V} {rs : List Rw}, Paired (RowV H) us rs → (∀ r ∈ rs, NameS r.k.name) → TdAll H us (rs.map rowD)
  | _, _, .nil, _ => .nil
  | _, _, .cons h t, hn => .cons (td_row h (hn _ List.mem_cons_self)) (td_rows t fun r hr => hn r (List.mem_cons_of_mem _ hr))
theorem dp_ops : ∀ l : List Nat, PyData.depthAll (l.map fun (n : Nat) => PyData.int (n : Int)) ≤ 1
  | [] => by simp [PyData.depthAll]
  | n :: r => by
    have := dp_ops r
    simp only [List.map_cons, PyData.depthAll, PyData.depth]
    omega
theorem dp_rows : ∀ l : List Rw, PyData.depthAll (l.map rowD) ≤ 10
  | [] => by simp [PyData.depthAll]
  | r :: l => by
    have := dp_rows l
    have := dp_ops r.ops
    simp only [List.map_cons, PyData.depthAll, PyData.depth, rowD]
    omega
theorem neD_rows {K : PySem.W.Frag} {H : Hp} {a b : Addr} {us us' : List V} {rs : List Rw} {Q : V → Hp → Prop} (ha : H a = some (.tup us)) (hb : H b = some (.tup us')) (h1 : Paired (RowV H) us rs) (h2 : Paired (RowV H) us' rs) (hn : ∀ r ∈ rs, NameS r.k.name) (q : Q (.bl false) H) : rNeD K (.ref a) (.ref b) H Q := by
  have t1 : Td H (.ref a) (.tuple (rs.map rowD)) := .tup ha (td_rows h1 hn)
  have t2 : Td H (.ref b) (.tuple (rs.map rowD)) := .tup hb (td_rows h2 hn)
  refine ⟨_, _, t1.dt, t2.dt, t1.lay, t2.lay, ?_, ?_⟩
  · simp only [PyData.depth]
    have := dp_rows rs
    omega
  · rw [t1.eqv]
    exact q
theorem neD_nil {K : PySem.W.Frag} {H : Hp} {a b : Addr} {Q : V → Hp → Prop} (ha : H a = some (.lst [])) (hb : H b = some (.lst [])) (q : Q (.bl false) H) : rNeD K (.ref a) (.ref b) H Q := by
  refine ⟨_, _, .lst (SqL.of ha) .nil, .lst (SqL.of hb) .nil, rfl, rfl, by simp [PyData.depth, PyData.depthAll], ?_⟩
  have : PyData.eqv (.list []) (.list []) = true := by simp [PyData.eqv, PyData.eqvAll]
  rw [this]
  exact q
def spLSame (Cp : Addr) : Sp := fun vs H Q _ => ∃ v l us, ∃ (rs : List Rw) (bl : Option Nat), vs = [v, .ref l, blV bl] ∧ ProgV Cp H v rs bl ∧ H l = some (.lst us) ∧ Paired (RowV H) us rs ∧ (∀ r ∈ rs, NameS r.k.name) ∧ ∀ H', Same H H' → Q (.bl true) H'
section
variable {P : Program} {w : World} {K : PySem.W.Frag} {mg : Str → Option Value} {base : Heap} {C Cp : Addr} {tb tm : Tok}
theorem scLWhole : FnScope ["_law_found"] ["_law_found"] (defScope sLWhole) := ⟨rfl, rfl, rfl, by decide +kernel, rfl, by decide +kernel, by decide +kernel⟩
theorem ok_lwhole {f : Addr} {fd : FuncData} (F : Fun K "_law_whole" "_law_whole" sLWhole f fd) (T : Bl mg) : FnOk P w K mg base CX0 1 f fd ["_law_found"] spWhole := by
  refine F.ok scLWhole (fun vs H Q E h => ?_) (fun cdv A outer s H vs Q E hr h => ?_)
  · obtain ⟨i, rfl, _⟩ := h
    rfl
  · obtain ⟨i, rfl, q⟩ := h
    refine ⟨_, pss_one (ps_ret (pe_and (pe_callB (isi_ty (T := "int")) (by rfl) T.isinstance boot_isi (pa_cons (pv 0) (pa_cons (pe_ty (by rfl) T.int PyProof.Rows.boot_int) pa_nil))) (pe_one (pe_not (pe_callB (isi_ty (T := "bool")) (by rfl) T.isinstance boot_isi (pa_cons (pv 0) (pa_cons (pe_ty (by rfl) T.bool boot_bool') pa_nil))))))), ?_⟩
    exact ⟨_, rfl, _, _, _, rfl, .int _, rfl, _, rfl, iteT ⟨_, rfl, _, _, _, rfl, .int _, rfl, _, rfl, q⟩⟩
theorem scLSame : FnScope ["_law_program", "_law_rows", "_law_bell", "_law_kind", "_law_operands"] ["_law_program", "_law_rows", "_law_bell"] (defScope sLSame) := ⟨rfl, rfl, rfl, by decide +kernel, rfl, by decide +kernel, by decide +kernel⟩
theorem ndOp : (["_law_operand"] : List Str).Nodup := by decide +kernel
set_option maxHeartbeats 4000000 in
theorem ok_lsame {f : Addr} {fd : FuncData} (F : Fun K "_law_same" "_law_same" sLSame f fd) (Tp : Pc K Cp) (B : Bl mg) (LW : Fn P w K mg base "_law_whole" 1 ["_law_found"] spWhole) : FnOk P w K mg base CX0 2 f fd ["_law_program", "_law_rows", "_law_bell"] (spLSame Cp) := by
  refine F.ok scLSame (fun vs H Q E h => ?_) (fun cdv A outer s H vs Q E hr h => ?_)
  · obtain ⟨v, l, us, rs, bl, rfl, _⟩ := h
    rfl
  · obtain ⟨v, l, us, rs, bl, rfl, ⟨ap, dp, tr, us', rfl, hap, htr, hus'⟩, hl, hus, hnm, q⟩ := h
    have sz : (100000 : Nat) ≤ sizeLine := by decide
    refine ⟨_, pss_cons (ps_if (PW.pt (pw_or (pt_not (pt_val (pe_callB (isi_ty (T := "tuple")) (by rfl) B.isinstance boot_isi (pa_cons (pe_fld (pv 0) rfl) (pa_cons (pe_ty (by rfl) B.tuple boot_tuple') pa_nil))))) (pw_or1 (pt_cmpR (op_neD hr) (pe_fld (pv 0) rfl) (pe_callTy call_tuple_of (by rfl) B.tuple boot_tuple' (pa_cons (pv 1) pa_nil)) (nomark _))))) (pss_one (ps_ret pe_bl)) pss_nil)
      (pss_cons (ps_for PassesOwn.never rfl (pi_tup (pe_fld (pv 0) rfl)) (pg_tup rfl (pgs_cons (pg_name (i := 3) scLSame.nd rfl (Or.inl rfl)) (pgs_cons (pg_name (i := 4) scLSame.nd rfl (Or.inl rfl)) pgs_nil)))
        (pss_one (ps_if (pt_cmpR (op_neD hr) (pe_lc (N' := ["_law_operand"]) (ix := [none]) (sc0 := defScope sLSame) (N := ["_law_program", "_law_rows", "_law_bell", "_law_kind", "_law_operands"]) rfl (by decide +kernel) (pi_tup (pv 4)) (fun C' cl s H fp => pg_name (i := 0) ndOp rfl (Or.inl rfl) (.inr rfl)) (fun C' cl s H fp => pf_one (pt_not (pt_val (pe_fn LW hr rfl (pa_cons (pv 0) pa_nil))))) (fun C' cl s H fp => pv 0)) (pe_lst pa_nil) (nomark _)) (pss_one (ps_ret pe_bl)) pss_nil)))
      (pss_cons (ps_if (pt_cmpR op_isN (pv 2) pe_non (nomark _)) (pss_one (ps_ret (pe_cmpR op_isN (pe_fld (pv 0) rfl) pe_non (nomark _)))) pss_nil)
      (pss_one (ps_ret (pe_and (pe_fn LW hr rfl (pa_cons (pe_fld (pv 0) rfl) pa_nil)) (pe_one (pe_cmpR op_eq (pe_fld (pv 0) rfl) (pv 2) (nomark _)))))))), ?_⟩
    refine ⟨_, rfl, ap, Cp, dp, _, _, rfl, hap, Tp.cl, Tp.n1, rfl, _, _, _, rfl, .tup htr, rfl, _, rfl, iteF ?_⟩
    refine ⟨_, rfl, ap, Cp, dp, _, _, rfl, hap, Tp.cl, Tp.n1, rfl, _, rfl, l, us, rfl, .inl ⟨SqL.of hl, fun t nt => ?_⟩⟩
    have s1 := same_new (o := .tup us) nt
    refine neD_rows (s1 _ _ htr) upd_same (pmap (fun _ _ h => RowV.kt (kt_same s1) h) hus') (pmap (fun _ _ h => RowV.kt (kt_same s1) h) hus) hnm ⟨_, rfl, iteF ?_⟩
    generalize upd H t (.tup us) = H1 at *
    refine ⟨_, rfl, ap, Cp, dp, _, _, rfl, s1 _ _ hap, Tp.cl, Tp.n1, rfl, tr, rfl, ⟨_, SqT.of (s1 _ _ htr)⟩, ?_⟩
    refine for_tup (K := K) (a := tr) (xs := us') (fun i σ H' => ∃ v3 v4 : Option V, σ = [some (.ref ap), some (.ref l), some (blV bl), v3, v4] ∧ Same H H') ⟨_, _, rfl, s1⟩ (fun i σ H' _ ⟨_, _, _, s'⟩ => SqT.of (s' _ _ htr)) ?_ ?_
    · rintro i x σ H2 hx ⟨v3, v4, rfl, s2⟩
      obtain ⟨r, hri, hR⟩ := pget hus' hx
      obtain ⟨p, tt, rfl, hp, htt⟩ := RowV.kt (kt_same s2) hR
      refine ⟨p, _, rfl, SqT.of hp, rfl, _, _, rfl, _, _, rfl, rfl, ?_⟩
      refine ⟨_, rfl, tt, rfl, ⟨_, SqT.of htt⟩, ?_⟩
      refine lc_tup (K := K) (a := tt) (xs := opsV r.ops) (fun i ys H' => H' = H2 ∧ ys = []) ⟨rfl, rfl⟩ (fun i ys H' hi ⟨a1, a2⟩ => by
          subst a1 a2
          exact ⟨SqT.of htt, Nat.zero_le _⟩) ?_ ?_
      · rintro j y ys H3 hy ⟨rfl, rfl⟩
        obtain ⟨o, hoo, rfl⟩ := ops_at hy
        refine ⟨trivial, _, rfl, (o : Int), rfl, _, rfl, iteF ?_⟩
        exact Nx.mk (List.getElem?_eq_some_iff.mp hy).1 ⟨rfl, rfl⟩
      · rintro ys H3 ⟨rfl, rfl⟩ l1 nl1
        have s3 := same_new (o := .lst []) nl1
        have e3 : (upd H3 l1 (.lst [])) l1 = some (.lst []) := upd_same
        generalize upd H3 l1 (.lst ([] : List V)) = H4 at *
        refine ⟨by show 0 ≤ sizeLine; decide, fun l2 nl2 => ?_⟩
        have s4 := same_new (o := .lst []) nl2
        refine neD_nil (s4 _ _ e3) upd_same ⟨_, rfl, iteF ?_⟩
        exact ⟨_, _, rfl, s2.trans (s3.trans s4)⟩
    · rintro σ H2 ⟨v3, v4, rfl, s2⟩
      have hap2 := s2 _ _ hap
      cases bl with
      | none =>
        refine ⟨_, rfl, rfl, _, rfl, iteT ?_⟩
        exact ⟨_, rfl, ap, Cp, dp, _, _, rfl, hap2, Tp.cl, Tp.n2, rfl, rfl, q _ s2⟩
      | some b =>
        refine ⟨_, rfl, rfl, _, rfl, iteF ?_⟩
        refine ⟨_, rfl, ap, Cp, dp, _, _, rfl, hap2, Tp.cl, Tp.n2, rfl, (b : Int), rfl, _, rfl, iteT ?_⟩
        refine ⟨_, rfl, ap, Cp, dp, _, _, rfl, hap2, Tp.cl, Tp.n2, rfl, _, rfl, rfl, ?_⟩
        have : decide (V.int (b : Int) = blV (some b)) = true := decide_eq_true rfl
        show Q (.bl (decide (blV (some b) = blV (some b)))) H2
        rw [decide_eq_true rfl]
        exact q _ s2
end
end L3
namespace L3
open PySem L2
theorem strm_kt {p : Addr} {H H' : Hp} (g : Strm H p) (b : But p H H') : TupK H H' := fun a xs e => b _ _ e (by
  rintro rfl
  obtain ⟨x, y, z, e'⟩ := g
  rw [e] at e'
  cases e')
theorem at4 {m0 r : Nat} (h : r < 4) : ([V.int 0, .int 1, .int 40, .int (m0 : Nat)] : List V)[r]? = some (.int (([0, 1, 40, m0] : List Nat).getD r 0 : Nat)) := by
  match r, h with
  | 0, _ => rfl
  | 1, _ => rfl
  | 2, _ => rfl
  | 3, _ => rfl
theorem le4 {m0 r : Nat} (h : r < 4) (hm : m0 ≤ 40) : ([0, 1, 40, m0] : List Nat).getD r 0 ≤ 40 := by
  match r, h with
  | 0, _ => exact Nat.zero_le _
  | 1, _ => exact (by decide : 1 ≤ 40)
  | 2, _ => exact Nat.le_refl 40
  | 3, _ => exact hm
theorem at2 {b0 r : Nat} (h : r < 2) : ∃ bl : Option Nat, ([V.non, .int (b0 : Nat)] : List V)[r]? = some (blV bl) ∧ ∀ b, bl = some b → b = b0 := by
  match r, h with
  | 0, _ => exact ⟨none, rfl, fun _ e => nomatch e⟩
  | 1, _ => exact ⟨some b0, rfl, fun _ e => (Option.some.inj e).symm⟩
theorem bell_add (b : Nat) : (("bell " : Str) ++ (toString (b : Int) : Str)) = S (bellC ++ dg b) := by
  have e : ("bell " : Str) = S bellC := by decide +kernel
  rw [e, str_dg, S_app]
structure Gd (Hb : Hp) (lr : Addr) (us : List V) (rs : List Rw) (bl : Option Nat) (D : Fm) (H : Hp) : Prop where
  sb : Same Hb H
  el : H lr = some (.lst us)
  rw : Paired (RowV H) us rs
  l40 : rs.length ≤ 40
  ok : ∀ r ∈ rs, RwOk D rs.length r
  bb : ∀ b, bl = some b → b ≤ rs.length
theorem Gd.same {Hb H H' : Hp} {lr : Addr} {us : List V} {rs : List Rw} {bl : Option Nat} {D : Fm} (h : Gd Hb lr us rs bl D H) (s : Same H H') : Gd Hb lr us rs bl D H' := ⟨h.sb.trans s, s _ _ h.el, pmap (fun _ _ h => RowV.kt (kt_same s) h) h.rw, h.l40, h.ok, h.bb⟩
def spGood (C : Addr) : Sp := fun vs H Q _ => ∃ q d v Hb D fn kvs lf lp lm lk lg ks, vs = [.ref q, .ref d, v] ∧ Strm H q ∧ Same Hb H ∧ Hb q = none ∧ KpV Hb d D fn kvs lf lp lm lk lg ks ∧ ShOk D fn ∧ TabV C Hb v D ∧ ∀ H', Same Hb H' → Q (.bl true) H'
section
variable {P : Program} {w : World} {K : PySem.W.Frag} {mg : Str → Option Value} {base : Heap} {C Cp : Addr} {tb tm : Tok}
theorem scGood : FnScope ["_law_stream_here", "_law_kept", "_law_table", "_law_many", "_law_rows", "_law_bell", "_law_lines", "_law_text", "_law_found"] ["_law_stream_here", "_law_kept", "_law_table"] (defScope sGood) := ⟨rfl, rfl, rfl, by decide +kernel, rfl, by decide +kernel, by decide +kernel⟩
theorem ndG1 : (["_law_k", "_law_stream_here", "_law_kept", "_law_many"] : List Str).Nodup := by decide +kernel
theorem ndG2 : (["_law_row", "_law_kept"] : List Str).Nodup := by decide +kernel
set_option maxHeartbeats 16000000 in
theorem ok_good {f : Addr} {fd : FuncData} (F : Fun K "_law_good" "_law_good" sGood f fd) (B : Bl mg) (TK' : Fn P w K mg base "_law_take" 1 ["_law_stream_here", "_law_many"] spTake) (SR : Fn P w K mg base "_law_shape_row" 3 ["_law_stream_here", "_law_table", "_law_rows"] spSR) (LL : Fn P w K mg base "_law_line" 2 ["_law_table", "_law_row"] spLine)
    (SH : Fn P w K mg base "show_program" 3 ["table", "program"] (spShow C Cp)) (PO : Fn P w K mg base "program_of" 6 ["table", "rows", "bell"] (spPO C Cp)) (RP : Fn P w K mg base "read_program" 7 ["table", "text"] (spRP C Cp)) (LS : Fn P w K mg base "_law_same" 2 ["_law_program", "_law_rows", "_law_bell"] (spLSame Cp)) : FnOk P w K mg base CX0 8 f fd ["_law_stream_here", "_law_kept", "_law_table"] (spGood C) := by
  refine F.ok scGood (fun vs H Q E h => ?_) (fun cdv A outer s H vs Q E hr h => ?_)
  · obtain ⟨q, d, v, Hb, D, fn, kvs, lf, lp, lm, lk, lg, ks, rfl, _⟩ := h
    rfl
  · obtain ⟨q, d, v, Hb, D, fn, kvs, lf, lp, lm, lk, lg, ks, rfl, hq, sb, nq, hK, hO, hT, qq⟩ := h
    have sz : (100000 : Nat) ≤ sizeLine := by decide
    have hr1 : Room 1 _ := hr.mono (by decide)
    have hr2 : Room 2 _ := hr.mono (by decide)
    have hr3 : Room 3 _ := hr.mono (by decide)
    have hr6 : Room 6 _ := hr.mono (by decide)
    refine ⟨_, pss_cons (ps_set (i := 3) scGood.nd rfl (Or.inr rfl) (pe_ix ix_list (pe_lst (pa_cons pe_int (pa_cons pe_int (pa_cons pe_int (pa_cons (pe_fn TK' hr1 rfl (pa_cons (pv 0) (pa_cons pe_int pa_nil))) pa_nil))))) (pe_fn TK' hr1 rfl (pa_cons (pv 0) (pa_cons pe_int pa_nil))) (fun _ _ => rfl)))
      (pss_cons (ps_setLC (i := 4) scGood.nd rfl rfl (N' := ["_law_k", "_law_stream_here", "_law_kept", "_law_many"]) (ix := [none, some 0, some 1, some 3]) (sc0 := defScope sGood) (N := ["_law_stream_here", "_law_kept", "_law_table", "_law_many", "_law_rows", "_law_bell", "_law_lines", "_law_text", "_law_found"]) rfl (by decide +kernel) (pi_range1 rfl B.range (pa_cons (pv 3) pa_nil)) (fun C' cl s H fp => pg_name (i := 0) ndG1 rfl (Or.inl rfl) (.inr rfl)) (fun _ _ _ _ _ => pf_nil) (fun C' cl s H fp => pe_fn SR hr3 rfl (pa_cons (pv 1) (pa_cons (pv 2) (pa_cons (pv 3) pa_nil)))))
      (pss_cons (ps_set (i := 5) scGood.nd rfl (Or.inl rfl) (pe_ix ix_list (pe_lst (pa_cons pe_non (pa_cons (pe_fn TK' hr1 rfl (pa_cons (pv 0) (pa_cons (pe_op op_add (pv 3) pe_int) pa_nil))) pa_nil))) (pe_fn TK' hr1 rfl (pa_cons (pv 0) (pa_cons pe_int pa_nil))) (fun _ _ => rfl)))
      (pss_cons (ps_setLC (i := 6) scGood.nd rfl rfl (N' := ["_law_row", "_law_kept"]) (ix := [none, some 1]) (sc0 := defScope sGood) (N := ["_law_stream_here", "_law_kept", "_law_table", "_law_many", "_law_rows", "_law_bell", "_law_lines", "_law_text", "_law_found"]) rfl (by decide +kernel) (pi_list (pv 4)) (fun C' cl s H fp => pg_name (i := 0) ndG2 rfl (Or.inl rfl) (.inr rfl)) (fun _ _ _ _ _ => pf_nil) (fun C' cl s H fp => pe_fn LL hr2 rfl (pa_cons (pv 1) (pa_cons (pv 0) pa_nil))))
      (pss_cut (fun σ H' => ∃ (v3 : Option V) (us : List V) (rs : List Rw) (bl : Option Nat) (lr ll : Addr), σ = [some (.ref q), some (.ref d), some v, v3, some (.ref lr), some (blV bl), some (.ref ll), none, none] ∧ Gd Hb lr us rs bl D H' ∧ Strm H' q ∧ lr ≠ q ∧ H' ll = some (.lst (txV (linesC D rs bl)))) (ps_if (pt_cmpR op_notN (pv 5) pe_non (nomark _)) (pss_one (ps_set (i := 6) scGood.nd rfl (Or.inl rfl) (pe_op op_cat (pe_lst (pa_cons (pe_op op_add_str pe_str (pe_callTy call_str_int (by rfl) B.str boot_str' (pa_cons (pv 5) pa_nil))) pa_nil)) (pv 6)))) pss_nil)
      (pss_cons (ps_set (i := 7) scGood.nd rfl (Or.inl rfl) (pe_bm PySem.F.plainAttrs_str PySem.F.slot_str_join PySem.F.type_str_join mt_join pe_str (pa_cons (pv 6) pa_nil)))
      (pss_cut (fun σ H' => ∃ (v3 v6 : Option V) (us : List V) (rs : List Rw) (bl : Option Nat) (lr : Addr), σ = [some (.ref q), some (.ref d), some v, v3, some (.ref lr), some (blV bl), v6, some (.str (S (progC D rs bl))), none] ∧ Gd Hb lr us rs bl D H') (ps_if (PW.pt (pw_and (pt_cmpR op_eq (pe_fn TK' hr1 rfl (pa_cons (pv 0) (pa_cons pe_int pa_nil))) pe_int (nomark _)) (pw_and1 (pt_cmpR op_ne (pe_fn SH hr3 rfl (pa_cons (pv 2) (pa_cons (pe_fn PO hr6 rfl (pa_cons (pv 2) (pa_cons (pv 4) (pa_cons (pv 5) pa_nil)))) pa_nil))) (pv 7) (nomark _))))) (pss_one (ps_ret pe_bl)) pss_nil)
      (pss_cons (ps_set (i := 8) scGood.nd rfl (Or.inl rfl) (pe_fn RP hr rfl (pa_cons (pv 2) (pa_cons (pv 7) pa_nil))))
      (pss_cons (ps_if (PW.pt (pw_or (pt_not (pt_val (pe_fn LS hr2 rfl (pa_cons (pv 8) (pa_cons (pv 4) (pa_cons (pv 5) pa_nil)))))) (pw_or1 (pt_cmpR op_ne (pe_fn SH hr3 rfl (pa_cons (pv 2) (pa_cons (pv 8) pa_nil))) (pv 7) (nomark _))))) (pss_one (ps_ret pe_bl)) pss_nil)
      (pss_cons (ps_if (pt_not (pt_val (pe_fn LS hr2 rfl (pa_cons (pe_fn RP hr rfl (pa_cons (pv 2) (pa_cons (pv 7) pa_nil))) (pa_cons (pv 4) (pa_cons (pv 5) pa_nil)))))) (pss_one (ps_ret pe_bl)) pss_nil)
      (pss_one (ps_ret (pe_cmpR op_eq (pe_fn SH hr3 rfl (pa_cons (pv 2) (pa_cons (pe_fn PO hr6 rfl (pa_cons (pv 2) (pa_cons (pv 4) (pa_cons (pv 5) pa_nil)))) pa_nil))) (pv 7) (nomark _))))))))))))), ?_⟩
    have nms : ∀ {rs : List Rw} {n : Nat}, (∀ r ∈ rs, RwOk D n r) → ∀ r ∈ rs, NameS r.k.name := fun h r hr' => hO.nm.kn _ (h r hr').1
    refine ⟨_, rfl, q, 41, rfl, hq, by decide, by decide, fun m0 H1 hm0 g1 b1 => ⟨by show 4 ≤ sizeLine; decide, fun l4 n4 => ?_⟩⟩
    have s1 := same_new (o := .lst [.int 0, .int 1, .int 40, .int (m0 : Nat)]) n4
    have e1 : (upd H1 l4 (.lst [.int 0, .int 1, .int 40, .int (m0 : Nat)])) l4 = some (.lst [.int 0, .int 1, .int 40, .int (m0 : Nat)]) := upd_same
    refine ⟨_, rfl, q, 4, rfl, g1.same s1, by decide, by decide, fun r4 H2 hr4 g2 b2 => ?_⟩
    have ql4 := g1.ne n4
    refine ⟨l4, _, _, _, rfl, rfl, SqL.of (b2 _ _ e1 ql4.symm), atI_nat (at4 hr4), ?_⟩
    have hm40 := le4 hr4 (by omega : m0 ≤ 40)
    generalize hmany : ([0, 1, 40, m0] : List Nat).getD r4 0 = many at *
    have b02 : But q H H2 := b1.trans ((but_of s1).trans b2)
    have sb2 : Same Hb H2 := same_but2 nq sb b02
    clear b1 b2 s1 e1 n4 ql4 g1 hmany
    refine ⟨_, rfl, _, rfl, by omega, by omega, ?_⟩
    rw [show ((many : Int)).toNat = many from Int.toNat_natCast many]
    refine lc_range (lo := 0) (n := many) (fun i ys H' => ∃ rs : List Rw, Strm H' q ∧ But q H2 H' ∧ ys.length = i ∧ i ≤ many ∧ rs.length = i ∧ Paired (RowV H') ys rs ∧ ∀ r ∈ rs, RwOk D many r) ⟨[], g2, But.refl _ _, rfl, Nat.zero_le _, rfl, .nil, fun _ z => nomatch z⟩ (fun i ys H' hi ⟨_, _, _, e', h', _⟩ => by omega) ?_ ?_
    · rintro i ys H3 hi ⟨rs, g3, b3, ly, hi', lrs, hrs, hok⟩
      refine ⟨⟨rfl, rfl, rfl, trivial⟩, tAny_T ?_⟩
      refine ⟨_, rfl, _, rfl, _, rfl, q, d, Hb, D, fn, kvs, lf, lp, lm, lk, lg, ks, many, rfl, g3, same_but2 nq sb2 b3, nq, hK, hO, by omega, fun u r H4 hu hru g4 b4 => ?_⟩
      refine Nx.mk hi ⟨rs ++ [r], g4, b3.trans b4, by rw [List.length_append, ly]; rfl, hi, by rw [List.length_append, lrs]; rfl, psnoc hu (pmap (fun _ _ h => RowV.kt (strm_kt g3 b4) h) hrs), fun r' hr' => ?_⟩
      rcases List.mem_append.mp hr' with h | h
      · exact hok r' h
      · rw [List.mem_singleton.mp h]
        exact hru
    rintro us H3 ⟨rs, g3, b3, lus, _, lrs, hrs, hok⟩ lr nlr
    have sb3 := same_but2 nq sb2 b3
    have s4 := same_new (o := .lst us) nlr
    have e4 : (upd H3 lr (.lst us)) lr = some (.lst us) := upd_same
    have qlr := g3.ne nlr
    have g4 := g3.same s4
    have hrs4 := pmap (fun _ _ h => RowV.kt (kt_same s4) h) hrs
    have sb4 := sb3.trans s4
    generalize upd H3 lr (.lst us) = H4 at *
    clear b3 b02 sb2 sb3 g3 g2 hrs s4 nlr
    subst lrs
    refine ⟨_, rfl, _, rfl, _, _, rfl, rfl, q, rs.length + 1, rfl, g4, by omega, by omega, fun b0 H5 hb0 g5 b5 => ⟨by show 2 ≤ sizeLine; decide, fun l2 n2 => ?_⟩⟩
    have e5 := b5 _ _ e4 qlr.symm
    have hrs5 := pmap (fun _ _ h => RowV.kt (strm_kt g4 b5) h) hrs4
    have sb5 := same_but2 nq sb4 b5
    have s6 := same_new (o := .lst [.non, .int (b0 : Nat)]) n2
    have e6 : (upd H5 l2 (.lst [.non, .int (b0 : Nat)])) l2 = some (.lst [.non, .int (b0 : Nat)]) := upd_same
    have ql2 := g5.ne n2
    refine ⟨_, rfl, q, 2, rfl, g5.same s6, by decide, by decide, fun r2 H7 hr2' g7 b7 => ?_⟩
    obtain ⟨bl, hbl, hbb⟩ := at2 (b0 := b0) hr2'
    refine ⟨l2, _, _, _, rfl, rfl, SqL.of (b7 _ _ e6 ql2.symm), atI_nat hbl, ?_⟩
    have e7 := b7 _ _ (s6 _ _ e5) qlr.symm
    have hrs7 := pmap (fun _ _ h => RowV.kt (strm_kt (g5.same s6) b7) (RowV.kt (kt_same s6) h)) hrs5
    have sb7 := same_but2 nq (sb5.trans s6) b7
    have G7 : Gd Hb lr us rs bl D H7 := ⟨sb7, e7, hrs7, hm40, hok, fun b e => by have := hbb b e; omega⟩
    clear e4 e5 e6 e7 hrs4 hrs5 hrs7 sb4 sb5 sb7 b5 b7 s6 g4 g5 n2 ql2 hbl hbb hb0
    have hnm := nms hok
    refine ⟨_, rfl, lr, rfl, ⟨_, SqL.of G7.el⟩, ?_⟩
    refine lc_list (K := K) (a := lr) (xs := us) (fun i ys H' => Same H7 H' ∧ ys = txV ((rs.take i).map (rowC D))) ⟨Same.refl _, rfl⟩ (fun i ys H' hi ⟨s', e'⟩ => ⟨SqL.of (s' _ _ G7.el), by
        rw [e']
        unfold txV
        rw [List.length_map, List.length_map, List.length_take]
        omega⟩) ?_ ?_
    · rintro i u ys H8 hu ⟨s8, rfl⟩
      have G8 := G7.same s8
      obtain ⟨r, hri, hR⟩ := pget G8.rw hu
      refine ⟨⟨rfl, trivial⟩, tAny_T ?_⟩
      refine ⟨_, rfl, _, rfl, d, u, D, fn, kvs, lf, lp, lm, lk, lg, ks, r, rs.length, rfl, hK.same G8.sb, hO, hR, hok r (List.mem_of_getElem? hri), by omega, fun H9 s9 => ?_⟩
      refine Nx.mk (List.getElem?_eq_some_iff.mp hu).1 ⟨s8.trans s9, ?_⟩
      rw [List.take_succ, hri]
      unfold txV
      simp
    rintro ys H8 ⟨s8, rfl⟩ ll nll
    have etk : rs.take us.length = rs := List.take_of_length_le (by omega)
    rw [etk]
    have s9 := same_new (o := .lst (txV (rs.map (rowC D)))) nll
    have e9 : (upd H8 ll (.lst (txV (rs.map (rowC D))))) ll = some (.lst (txV (rs.map (rowC D)))) := upd_same
    have G9 := G7.same (s8.trans s9)
    have g9 := g7.same (s8.trans s9)
    generalize upd H8 ll (.lst (txV (rs.map (rowC D)))) = H9 at *
    clear G7 g7 s8 s9 nll
    refine ⟨?_, ?_⟩
    · clear G9 g9 e9 etk hnm hok hm40 lus qlr
      rintro σ Ha ⟨v3, us, rs, bl, lr, ll, rfl, Ga, ga, qlr, ea⟩
      have hb40 : ∀ b, bl = some b → b ≤ 40 := fun b e => Nat.le_trans (Ga.bb b e) Ga.l40
      have psm := prog_sum hO.fm hO.nm hO.w24 Ga.ok Ga.l40 hb40
      have hnm := nms Ga.ok
      refine ⟨rfl, _, rfl, [10], ll, linesC D rs bl, congrArg V.str nl_S, rfl, SqL.of ea, ?_, ?_⟩
      · simp only [List.length_cons, List.length_nil]
        omega
      refine ⟨?_, ?_⟩
      · clear Ga ga qlr ea hb40 psm hnm
        rintro σ Hc ⟨v3, v6, us, rs, bl, lr, rfl, Gc⟩
        have hnm := nms Gc.ok
        refine ⟨_, rfl, _, rfl, v, D, rs, bl, rfl, hT.same Gc.sb, hO.fm, hO.nm, hO.w24, Gc.ok, Gc.l40, Gc.bb, fun v1 H1 s1 P1 => ?_⟩
        have G1 := Gc.same s1
        refine ⟨_, rfl, _, rfl, _, rfl, v1, lr, us, rs, bl, rfl, P1, G1.el, G1.rw, hnm, fun H2 s2 => ⟨_, rfl, iteF ?_⟩⟩
        have G2 := G1.same s2
        refine ⟨_, rfl, _, rfl, v, v1, D, rs, bl, rfl, hT.same G2.sb, hO.fm, hO.nm, hO.w24, P1.same s2, G2.ok, G2.l40, G2.bb, fun H3 s3 => ⟨_, rfl, rfl, _, rfl, iteB (by simp) ?_⟩⟩
        have G3 := G2.same s3
        refine ⟨_, rfl, _, rfl, v, D, rs, bl, rfl, hT.same G3.sb, hO.fm, hO.nm, hO.w24, G3.ok, G3.l40, G3.bb, fun v4 H4 s4 P4 => ?_⟩
        have G4 := G3.same s4
        refine ⟨_, rfl, _, rfl, v4, lr, us, rs, bl, rfl, P4, G4.el, G4.rw, hnm, fun H5 s5 => ⟨_, rfl, iteF ?_⟩⟩
        have G5 := G4.same s5
        refine ⟨_, rfl, _, rfl, _, rfl, _, rfl, v, lr, us, D, rs, bl, rfl, hT.same G5.sb, hO.fm, hO.w24, G5.el, G5.rw, G5.ok, G5.l40, G5.bb, fun v6 H6 s6 P6 => ?_⟩
        have G6 := G5.same s6
        refine ⟨v, v6, D, rs, bl, rfl, hT.same G6.sb, hO.fm, hO.nm, hO.w24, P6, G6.ok, G6.l40, G6.bb, fun H7 s7 => ⟨_, rfl, rfl, ?_⟩⟩
        rw [decide_eq_true rfl]
        exact qq _ (G6.same s7).sb
      · refine ⟨_, rfl, q, 2, rfl, ga, by decide, by decide, fun r2 H1 hr2' g1 b1 => ?_⟩
        have G1 : Gd Hb lr us rs bl D H1 := ⟨same_but2 nq Ga.sb b1, b1 _ _ Ga.el qlr, pmap (fun _ _ h => RowV.kt (strm_kt ga b1) h) Ga.rw, Ga.l40, Ga.ok, Ga.bb⟩
        refine ⟨rfl, _, rfl, ite2 (fun h => ?_) (fun h => iteF ?_)⟩
        · refine ⟨_, rfl, _, rfl, _, rfl, _, rfl, v, lr, us, D, rs, bl, rfl, hT.same G1.sb, hO.fm, hO.w24, G1.el, G1.rw, G1.ok, G1.l40, G1.bb, fun v6 H6 s6 P6 => ?_⟩
          have G6 := G1.same s6
          refine ⟨v, v6, D, rs, bl, rfl, hT.same G6.sb, hO.fm, hO.nm, hO.w24, P6, G6.ok, G6.l40, G6.bb, fun H7 s7 => ⟨_, rfl, rfl, _, rfl, iteB (by simp [progC]) ?_⟩⟩
          exact ⟨_, _, us, rs, bl, lr, rfl, G6.same s7⟩
        · exact ⟨_, _, us, rs, bl, lr, rfl, G1⟩
    · cases bl with
      | none =>
        refine ⟨_, rfl, rfl, _, rfl, iteF ?_⟩
        exact ⟨_, us, rs, none, lr, ll, rfl, G9, g9, qlr.symm, e9⟩
      | some b =>
        have hb40 : b ≤ 40 := Nat.le_trans (G9.bb b rfl) G9.l40
        refine ⟨_, rfl, rfl, _, rfl, iteT ?_⟩
        have ld := (dg_len b).2 2 (by decide) (by omega)
        refine ⟨_, rfl, _, rfl, log_small (by omega), _, _, rfl, rfl, ?_, by show 1 ≤ sizeLine; decide, fun l1 n1 => ?_⟩
        · rw [str_dg, S_len]
          show 5 + _ ≤ _
          omega
        rw [bell_add]
        have s1 := same_new (o := .lst [.str (S (bellC ++ dg b))]) n1
        have e1 : (upd H9 l1 (.lst [.str (S (bellC ++ dg b))])) l1 = some (.lst [.str (S (bellC ++ dg b))]) := upd_same
        generalize upd H9 l1 (.lst [V.str (S (bellC ++ dg b))]) = Ha at *
        refine ⟨_, rfl, l1, ll, _, _, rfl, rfl, e1, s1 _ _ e9, ?_, fun l3 n3 => ?_⟩
        · unfold txV
          rw [List.length_map, List.length_map]
          simp only [List.length_cons, List.length_nil]
          omega
        have s3 := s1.trans (same_new (o := .lst ([V.str (S (bellC ++ dg b))] ++ txV (rs.map (rowC D)))) n3)
        exact ⟨_, us, rs, some b, lr, l3, rfl, G9.same s3, g9.same s3, qlr.symm, upd_same⟩
end
end L3
namespace L3
open PySem L2
def spLaw (K : PySem.W.Frag) : Sp := fun vs H Q _ => ∃ (a : Addr) (ns : List Int), vs = [.ref a] ∧ SqL K H a (ns.map V.int) ∧ ns.length ≤ 63 ∧ ∀ H', Q (.bl true) H'
section
variable {P : Program} {w : World} {K : PySem.W.Frag} {mg : Str → Option Value} {base : Heap} {C Cp : Addr} {tb tm : Tok}
theorem scLaw : FnScope ["_law_script", "_law_kept", "_law_table", "_law_k"] ["_law_script"] (defScope sLaw) := ⟨rfl, rfl, rfl, by decide +kernel, rfl, by decide +kernel, by decide +kernel⟩
set_option maxHeartbeats 8000000 in
theorem ok_law {f : Addr} {fd : FuncData} (F : Fun K "law" "law" sLaw f fd) (B : Bl mg) (CL : Fn P w K mg base "_law_cell" 1 ["_law_script", "_law_k"] (spCell K)) (ST : Fn P w K mg base "_law_stream" 1 ["_law_cell_here"] spStream) (SHP : Fn P w K mg base "_law_shape" 3 ["_law_stream_here"] spShape) (TX : Fn P w K mg base "_law_shape_text" 2 ["_law_table"] spST) (RT : Fn P w K mg base "read_table" 8 ["text"] (spRT C))
    (GD : Fn P w K mg base "_law_good" 8 ["_law_stream_here", "_law_kept", "_law_table"] (spGood C)) : FnOk P w K mg base CX0 9 f fd ["_law_script"] (spLaw K) := by
  refine F.ok scLaw (fun vs H Q E h => ?_) (fun cdv A outer s H vs Q E hr h => ?_)
  · obtain ⟨l, ns, rfl, _⟩ := h
    rfl
  · obtain ⟨l, ns, rfl, hS, hl, q⟩ := h
    have hr1 : Room 1 _ := hr.mono (by decide)
    have hr2 : Room 2 _ := hr.mono (by decide)
    have hr3 : Room 3 _ := hr.mono (by decide)
    refine ⟨_, pss_cons (ps_set (i := 1) scLaw.nd rfl (Or.inl rfl) (pe_fn SHP hr3 rfl (pa_cons (pe_fn ST hr1 rfl (pa_cons (pe_fn CL hr1 rfl (pa_cons (pv 0) (pa_cons pe_int pa_nil))) pa_nil)) pa_nil)))
      (pss_cons (ps_set (i := 2) scLaw.nd rfl (Or.inl rfl) (pe_fn RT hr rfl (pa_cons (pe_fn TX hr2 rfl (pa_cons (pv 1) pa_nil)) pa_nil)))
      (pss_cons (ps_for PassesOwn.never rfl (pi_range1 rfl B.range (pa_cons (pe_callB (call_max2 rfl) (by rfl) B.max PyProof.Rows.boot_max (pa_cons pe_int (pa_cons (pe_callB (call_min2 rfl) (by rfl) B.min PyProof.Rows.boot_min (pa_cons pe_int (pa_cons (pe_callB call_len_seq (by rfl) B.len PySem.boot_len (pa_cons (pv 0) pa_nil)) pa_nil))) pa_nil))) pa_nil)) (pg_name (i := 3) scLaw.nd rfl (Or.inl rfl))
        (pss_one (ps_if (pt_not (pt_val (pe_fn GD hr rfl (pa_cons (pe_fn ST hr1 rfl (pa_cons (pe_fn CL hr1 rfl (pa_cons (pv 0) (pa_cons (pv 3) pa_nil))) pa_nil)) (pa_cons (pv 1) (pa_cons (pv 2) pa_nil)))))) (pss_one (ps_ret pe_bl)) pss_nil)))
      (pss_one (ps_ret pe_bl)))), ?_⟩
    refine ⟨_, rfl, l, ns, 0, rfl, hS, by omega, fun c => ⟨c, rfl, fun p H1 np s1 g1 => ⟨p, rfl, g1, fun d H2 D fn kvs lf lp lm lk lg ks b2 hK hO => ?_⟩⟩⟩
    have s2 : Same H H2 := same_but2 np s1 b2
    refine ⟨_, rfl, d, D, fn, kvs, lf, lp, lm, lk, lg, ks, rfl, hK, hO, fun H3 s3 => ?_⟩
    obtain ⟨tl1, tl2⟩ := text_len hO
    have ett := text_toks hO
    refine ⟨textC D, D, rfl, tl1, by rw [ett]; exact tl2, by rw [ett, tT_eq]; exact form_at hO, hO.fm, fun v H4 s4 hT => ?_⟩
    have K4 := hK.same (s3.trans s4)
    have s04 := s2.trans (s3.trans s4)
    have hS4 := s04.seq hS
    refine ⟨_, rfl, l, _, rfl, .inl hS4, _, _, rfl, _, _, rfl, _, rfl, ?_, ?_, ?_⟩
    · split <;> (try split) <;> omega
    · rw [List.length_map]; split <;> (try split) <;> omega
    refine for_range (lo := 0) (fun i σ H' => ∃ v3 : Option V, σ = [some (.ref l), some (.ref d), some v, v3] ∧ Same H4 H') ⟨_, rfl, Same.refl _⟩ ?_ ?_
    · rintro i σ H5 hi ⟨v3, rfl, s5⟩
      refine ⟨_, rfl, _, rfl, l, ns, 0 + (i : Int), rfl, s5.seq hS4, by omega, fun c => ⟨c, rfl, fun p' H6 np' s6 g6 => ?_⟩⟩
      refine ⟨_, rfl, _, rfl, p', d, v, H5, D, fn, kvs, lf, lp, lm, lk, lg, ks, rfl, g6, s6, np', K4.same s5, hO, hT.same s5, fun H7 s7 => ⟨_, rfl, iteF ?_⟩⟩
      exact ⟨_, rfl, s5.trans s7⟩
    · rintro σ H5 ⟨v3, rfl, s5⟩
      exact q H5
end
end L3
namespace L3
open PySem L2
abbrev sSetOf : Stmt := top 82
def DefIn (K : PySem.W.Frag) (x : Str) (st : Stmt) (f : Addr) : Prop :=
  PySem.W.nsIn K mainGlobals x = some (some (.ref f)) ∧ ∃ fd : FuncData, Fun K x x st f fd
theorem def_mk {K : PySem.W.Frag} {x : Str} {st : Stmt} {f : Addr} {oc : Value} {od an : Option Addr} {osl : Array (Option Value)} {kV doc pm cdv ct : Value} (a : PySem.W.nsIn K mainGlobals x = some (some (.ref f)))
    (l : K.lookup f = some ⟨oc, od, .func (PySem.W.fnOf x x (defArgs st) (defBody st) (defScope st) .none kV doc pm an cdv ct), osl⟩) (c : PySem.W.codeIn K cdv x = true) (k : PySem.W.keepIn K (.ref f) = true) : DefIn K x st f := ⟨a, _, fun_mk l c k⟩
theorem fn_mk {P : Program} {w : World} {K : PySem.W.Frag} {mg : Str → Option Value} {base h : Heap} {x : Str} {st : Stmt} {f : Addr} {k : Nat} {ps : List Str} {sp : Sp} (X : K.In h) (G : h.Ns mainGlobals mg) (D : DefIn K x st f)
    (hb : ∀ (kV doc pm : Value) (an : Option Addr) (cdv ct : Value) (us : List Value), us.length = ps.length → bindArgs (PySem.W.fnOf x x (defArgs st) (defBody st) (defScope st) .none kV doc pm an cdv ct) ⟨us, []⟩ = pure (ps.zip us))
    (ok : ∀ fd, Fun K x x st f fd → FnOk P w K mg base CX0 k f fd ps sp) : Fn P w K mg base x k ps sp := by
  obtain ⟨a, fd, F⟩ := D
  exact ⟨f, fd, PySem.W.mg_of X G a, F.kp, F.binds hb, ok fd F⟩
def DefD (K : PySem.W.Frag) (x : Str) (st : Stmt) (f : Addr) : Prop :=
  PySem.W.nsIn K mainGlobals x = some (some (.ref f)) ∧ ∃ fd : FuncData, FunD K x x st f fd
theorem defD_mk {K : PySem.W.Frag} {x : Str} {st : Stmt} {f d : Addr} {oc : Value} {od an : Option Addr} {osl : Array (Option Value)} {kV doc pm cdv ct : Value} {n : Nat} {oc2 : Value} {od2 : Option Addr} {osl2 : Array (Option Value)} (a : PySem.W.nsIn K mainGlobals x = some (some (.ref f)))
    (l : K.lookup f = some ⟨oc, od, .func (PySem.W.fnOf x x (defArgs st) (defBody st) (defScope st) (.ref d) kV doc pm an cdv ct), osl⟩) (e : K.lookup d = some ⟨oc2, od2, .seq #[.none] n, osl2⟩) (c : PySem.W.codeIn K cdv x = true) (k : PySem.W.keepIn K (.ref f) = true) : DefD K x st f :=
  ⟨a, _, ⟨⟨oc, od, kV, doc, pm, an, cdv, ct, osl, d, _, n, rfl, l, c, e, rfl⟩, k⟩⟩
theorem po_binds {K : PySem.W.Frag} {f : Addr} {fd : FuncData} (F : FunD K "program_of" "program_of" sProgramOf f fd) : Binds K fd ["table", "rows", "bell"] [] := by
  obtain ⟨oc, od, kV, doc, pm, an, cdv, ct, osl, d, o, n, rfl, lk, hcd, hd, hs⟩ := F.ex
  intro s us KX hl
  rw [List.append_nil] at hl ⊢
  match us, hl with
  | [a, b, c], _ => exact BindsTo.of_defaults rfl (KX d o hd) hs rfl rfl
theorem po_mk {P : Program} {w : World} {K : PySem.W.Frag} {mg : Str → Option Value} {base h : Heap} {f : Addr} {k : Nat} {sp : Sp} (X : K.In h) (G : h.Ns mainGlobals mg) (D : DefD K "program_of" sProgramOf f)
    (ok : ∀ fd, FunD K "program_of" "program_of" sProgramOf f fd → FnOk P w K mg base CX0 k f fd ["table", "rows", "bell"] sp) : Fn P w K mg base "program_of" k ["table", "rows", "bell"] sp := by
  obtain ⟨a, fd, F⟩ := D
  exact ⟨f, fd, PySem.W.mg_of X G a, F.kp, po_binds F, ok fd F⟩
structure MIn (K : PySem.W.Frag) (x qual : Str) (st : Stmt) (f : Addr) : Prop where
  fu : ∃ fd : FuncData, Fun K x qual st f fd
  fn : PySem.W.isFn K (.ref f) = true
theorem min_mk {K : PySem.W.Frag} {x qual : Str} {st : Stmt} {f : Addr} {oc : Value} {od an : Option Addr} {osl : Array (Option Value)} {kV doc pm cdv ct : Value}
    (l : K.lookup f = some ⟨oc, od, .func (PySem.W.fnOf x qual (defArgs st) (defBody st) (defScope st) .none kV doc pm an cdv ct), osl⟩) (c : PySem.W.codeIn K cdv qual = true) (k : PySem.W.keepIn K (.ref f) = true) (n : PySem.W.isFn K (.ref f) = true) : MIn K x qual st f := ⟨⟨_, fun_mk l c k⟩, n⟩
theorem mth_mk {P : Program} {w : World} {K : PySem.W.Frag} {mg : Str → Option Value} {base : Heap} {Cc f : Addr} {x qual : Str} {st : Stmt} {k : Nat} {ps : List Str} {sp : Sp} (a : PySem.W.findIn K (.ref Cc) x = some (some (.ref f))) (D : MIn K x qual st f)
    (hb : ∀ (kV doc pm : Value) (an : Option Addr) (cdv ct : Value) (us : List Value), us.length = ps.length → bindArgs (PySem.W.fnOf x qual (defArgs st) (defBody st) (defScope st) .none kV doc pm an cdv ct) ⟨us, []⟩ = pure (ps.zip us))
    (ok : ∀ fd, Fun K x qual st f fd → FnOk P w K mg base CX0 k f fd ps sp) : MthOk P w K mg base Cc x k ps sp := by
  obtain ⟨⟨fd, F⟩, n⟩ := D
  exact ⟨f, fd, ⟨a, n, F.kp⟩, ok fd F, F.binds hb⟩
theorem ini_mk {P : Program} {w : World} {K : PySem.W.Frag} {mg : Str → Option Value} {base : Heap} {f : Addr} {x qual : Str} {st : Stmt} {ps : List Str} {sp : Sp} (D : MIn K x qual st f)
    (hb : ∀ (kV doc pm : Value) (an : Option Addr) (cdv ct : Value) (us : List Value), us.length = ps.length → bindArgs (PySem.W.fnOf x qual (defArgs st) (defBody st) (defScope st) .none kV doc pm an cdv ct) ⟨us, []⟩ = pure (ps.zip us))
    (ok : ∀ fd, Fun K x qual st f fd → FnOk P w K mg base CX0 1 f fd ps sp) : ∃ fd, FnOk P w K mg base CX0 1 f fd ps sp ∧ Binds K fd ps [] := by
  obtain ⟨⟨fd, F⟩, n⟩ := D
  exact ⟨fd, ok fd F, F.binds hb⟩
def NaAll (K : PySem.W.Frag) (c : Addr) : List Str → Prop
  | [] => True
  | f :: r => NoAttr K c f ∧ NaAll K c r
theorem NaAll.get {K : PySem.W.Frag} {c : Addr} : ∀ {l : List Str}, NaAll K c l → ∀ f ∈ l, NoAttr K c f
  | [], _, f, hf => absurd hf (by simp)
  | g :: r, h, f, hf => by
    rcases List.mem_cons.mp hf with rfl | hf
    · exact h.1
    · exact NaAll.get h.2 f hf
structure CK (K : PySem.W.Frag) (n : Str) (c i : Addr) (fl : List Str) : Prop where
  ns : PySem.W.nsIn K mainGlobals n = some (some (.ref c))
  cls : Cls K c
  na : NaAll K c fl
  mk_ : Mk K c i
theorem ck_mk {K : PySem.W.Frag} {n : Str} {c i : Addr} {fl : List Str} (ns : PySem.W.nsIn K mainGlobals n = some (some (.ref c))) (g1 : PySem.W.plainGet K c Str.empty = true) (g2 : PySem.W.hasDictIn K c = true) (g3 : PySem.W.plainOver K c = true)
    (g4 : PySem.W.findIn K (.ref c) "__setattr__" = some (some (.builtin "object.__setattr__"))) (m1 : PySem.W.makesIn K c = true) (m2 : PySem.W.findIn K (.ref c) "__init__" = some (some (.ref i))) (m3 : PySem.W.isFn K (.ref i) = true) (m4 : PySem.W.keepIn K (.ref c) = true) (na : NaAll K c fl) : CK K n c i fl :=
  ⟨ns, ⟨g1, g2, g3, g4⟩, na, ⟨m1, m2, m3, m4⟩⟩
theorem na2 {K : PySem.W.Frag} {c : Addr} {a b : Str} (x : PySem.W.findIn K (.ref c) a = some none) (y : PySem.W.findIn K (.ref c) b = some none) : NaAll K c [a, b] := ⟨x, y, trivial⟩
theorem na3 {K : PySem.W.Frag} {c : Addr} {a b d : Str} (x : PySem.W.findIn K (.ref c) a = some none) (y : PySem.W.findIn K (.ref c) b = some none) (z : PySem.W.findIn K (.ref c) d = some none) : NaAll K c [a, b, d] := ⟨x, y, z, trivial⟩
theorem na8 {K : PySem.W.Frag} {c : Addr} {a b d e f g h i : Str} (x : PySem.W.findIn K (.ref c) a = some none) (y : PySem.W.findIn K (.ref c) b = some none) (z : PySem.W.findIn K (.ref c) d = some none) (u : PySem.W.findIn K (.ref c) e = some none) (x1 : PySem.W.findIn K (.ref c) f = some none) (y1 : PySem.W.findIn K (.ref c) g = some none) (z1 : PySem.W.findIn K (.ref c) h = some none) (u1 : PySem.W.findIn K (.ref c) i = some none) : NaAll K c [a, b, d, e, f, g, h, i] := ⟨x, y, z, u, x1, y1, z1, u1, trivial⟩
theorem vals_toks : ∀ (zs : List Str) (ts : List Tok), ts.length = zs.length → Vals (zs.map V.str) ((zs.zip ts).map fun p => Value.str p.1 p.2)
  | [], _, _ => .nil
  | z :: r, [], h => by cases h
  | z :: r, t :: u, h => .cons ⟨t, rfl⟩ (vals_toks r u (by simpa using h))
theorem sq_own_words {K : PySem.W.Frag} {a : Addr} {t1 t2 t3 t4 t5 t6 t7 t8 t9 t10 t11 t12 t13 t14 t15 t16 t17 t18 t19 t20 t21 t22 : Tok} {n : Nat} (h : K.lookup a = some { cls := .type "tuple", data := .seq #[.str "word" t1, .str "cells" t2, .str "depth" t3, .str "places" t4, .str "marks" t5, .str "gate" t6, .str "kind" t7, .str "place" t8, .str "mark" t9, .str "number" t10, .str "row" t11, .str "set" t12, .str "if" t13, .str "else" t14, .str "top" t15, .str "next" t16, .str "go" t17, .str "call" t18, .str "back" t19, .str "stop" t20, .str "fault" t21, .str "bell" t22] n }) : ∀ H, SqT K H a (strsV ownL) := fun H =>
  .inr ⟨_, _, n, h, rfl, rfl, (by show 22 ≤ sizeLine; decide), vals_toks ["word", "cells", "depth", "places", "marks", "gate", "kind", "place", "mark", "number", "row", "set", "if", "else", "top", "next", "go", "call", "back", "stop", "fault", "bell"] [t1, t2, t3, t4, t5, t6, t7, t8, t9, t10, t11, t12, t13, t14, t15, t16, t17, t18, t19, t20, t21, t22] rfl⟩
theorem sq_sorts {K : PySem.W.Frag} {a : Addr} {t1 t2 t3 t4 : Tok} {n : Nat} (h : K.lookup a = some { cls := .type "tuple", data := .seq #[.str "place" t1, .str "mark" t2, .str "number" t3, .str "row" t4] n }) : ∀ H, SqT K H a (strsV sortL) := fun H =>
  .inr ⟨_, _, n, h, rfl, rfl, (by show 4 ≤ sizeLine; decide), vals_toks ["place", "mark", "number", "row"] [t1, t2, t3, t4] rfl⟩
theorem sq_ends {K : PySem.W.Frag} {a : Addr} {t1 t2 t3 t4 t5 t6 : Tok} {n : Nat} (h : K.lookup a = some { cls := .type "tuple", data := .seq #[.str "next" t1, .str "go" t2, .str "call" t3, .str "back" t4, .str "stop" t5, .str "fault" t6] n }) : ∀ H, SqT K H a (strsV ["next", "go", "call", "back", "stop", "fault"]) := fun H =>
  .inr ⟨_, _, n, h, rfl, rfl, (by show 6 ≤ sizeLine; decide), vals_toks ["next", "go", "call", "back", "stop", "fault"] [t1, t2, t3, t4, t5, t6] rfl⟩
theorem sq_own_faults {K : PySem.W.Frag} {a : Addr} {t1 t2 : Tok} {n : Nat} (h : K.lookup a = some { cls := .type "tuple", data := .seq #[.str "deep" t1, .str "bare" t2] n }) : ∀ H, SqT K H a (strsV ["deep", "bare"]) := fun H =>
  .inr ⟨_, _, n, h, rfl, rfl, (by show 2 ≤ sizeLine; decide), vals_toks ["deep", "bare"] [t1, t2] rfl⟩
theorem sq_double_signs {K : PySem.W.Frag} {a : Addr} {t1 t2 : Tok} {n : Nat} (h : K.lookup a = some { cls := .type "tuple", data := .seq #[.str "<<" t1, .str ">>" t2] n }) : ∀ H, SqT K H a ([.str "<<", .str ">>"]) := fun H =>
  .inr ⟨_, _, n, h, rfl, rfl, (by show 2 ≤ sizeLine; decide), vals_toks ["<<", ">>"] [t1, t2] rfl⟩
set_option maxHeartbeats 8000000 in
theorem all_mk {l : PySem.W.OpenLaw} {w : World} {K : PySem.W.Frag} {h : Heap} {mg : Str → Option Value} {fa f0 f1 f2 f3 f4 f5 f6 f7 f8 f9 f10 f11 f12 f13 f14 f15 f16 f17 f18 f19 f20 f21 f22 f23 f24 f25 f26 f27 f28 f29 f30 f31 f32 f33 f34 f35 f36 f37 f38 f39 f40 f41 f42 f43 f44 f45 f46 fPO cR iR cT iT cP iP m_look m_take m_need m_need_name m_need_number m_need_end m_kind_at m_fields_of a_OWN_WORDS a_SORTS a_ENDS a_OWN_FAULTS a_DOUBLE_SIGNS : Addr} {k_MOST_FIGURES k_LONGEST_NAME k_MOST_ROWS k_MOST_TOKENS k_MOST_KINDS k_MOST_FIELDS k_MOST_SETS k_MOST_CHOICES k_MOST_SIGNS k_FIGURES k_LETTERS k_BELL k_GAPS k_SINGLE_SIGNS : Tok} (X : K.In h) (G : h.Ns mainGlobals mg) (hfa : mg "law" = some (.ref fa))
    (d0 : DefIn K "number_of" sNumberOf f0)
    (d1 : DefIn K "is_whole" sWhole f1)
    (d2 : DefIn K "is_within" sWithin f2)
    (d3 : DefIn K "is_word" sWord f3)
    (d4 : DefIn K "is_name" sName f4)
    (d5 : DefIn K "is_row" sIsRow f5)
    (d6 : DefIn K "is_operand" sIsOperand f6)
    (d7 : DefIn K "show_program" sShowProgram f7)
    (d8 : DefIn K "operand_shown" sOperandShown f8)
    (d9 : DefIn K "read_program" sReadProgram f9)
    (d10 : DefIn K "read_bell" sReadBell f10)
    (d11 : DefIn K "row_read" sRowRead f11)
    (d12 : DefIn K "operand_read" sOperandRead f12)
    (d13 : DefIn K "read_form" sReadForm f13)
    (d14 : DefIn K "read_bounded" sReadBounded f14)
    (d15 : DefIn K "read_names" sReadNames f15)
    (d16 : DefIn K "read_kind" sReadKind f16)
    (d17 : DefIn K "read_fields" sReadFields f17)
    (d18 : DefIn K "read_field" sReadField f18)
    (d19 : DefIn K "read_body" sReadBody f19)
    (d20 : DefIn K "read_leaf" sReadLeaf f20)
    (d21 : DefIn K "read_end" sReadEnd f21)
    (d22 : DefIn K "table_of_form" sTableOfForm f22)
    (d23 : DefIn K "add_name" sAddName f23)
    (d24 : DefIn K "need_known" sNeedKnown f24)
    (d25 : DefIn K "kinds_named" sKindsNamed f25)
    (d26 : DefIn K "names_with_fields" sNamesWith f26)
    (d27 : DefIn K "deed_of" sDeedOf f27)
    (d28 : DefIn K "end_of" sEndOf f28)
    (d29 : DefIn K "set_of" sSetOf f29)
    (d30 : DefIn K "tokens_of" sTokens f30)
    (d31 : DefIn K "sign_at" sSign f31)
    (d32 : DefIn K "run_at" sRun f32)
    (d33 : DefIn K "read_table" sReadTable f33)
    (d34 : DefIn K "_law_cell" sCell f34)
    (d35 : DefIn K "_law_stream" sStream f35)
    (d36 : DefIn K "_law_take" sTake f36)
    (d37 : DefIn K "_law_names" sNames f37)
    (d38 : DefIn K "_law_shape" sShape f38)
    (d39 : DefIn K "_law_shape_text" sShapeText f39)
    (d40 : DefIn K "_law_bounds" sBounds f40)
    (d41 : DefIn K "_law_shape_row" sShapeRow f41)
    (d42 : DefIn K "_law_line" sLine f42)
    (d43 : DefIn K "_law_whole" sLWhole f43)
    (d44 : DefIn K "_law_same" sLSame f44)
    (d45 : DefIn K "_law_good" sGood f45)
    (d46 : DefIn K "law" sLaw f46)
    (dPO : DefD K "program_of" sProgramOf fPO)
    (CR : CK K "Reader" cR iR ["tokens", "spot", "may_end"]) (IR : MIn K "__init__" "Reader.__init__" sRInit iR)
    (CT : CK K "Table" cT iT ["width", "cells", "depth", "places", "marks", "gate", "kinds", "kinds_known"]) (IT : MIn K "__init__" "Table.__init__" sTInit iT)
    (CP : CK K "Program" cP iP ["rows", "bell"]) (IP : MIn K "__init__" "Program.__init__" sPInit iP)
    (h_look : PySem.W.findIn K (.ref cR) "look" = some (some (.ref m_look))) (M_look : MIn K "look" "Reader.look" sLook m_look)
    (h_take : PySem.W.findIn K (.ref cR) "take" = some (some (.ref m_take))) (M_take : MIn K "take" "Reader.take" sTk m_take)
    (h_need : PySem.W.findIn K (.ref cR) "need" = some (some (.ref m_need))) (M_need : MIn K "need" "Reader.need" sNeed m_need)
    (h_need_name : PySem.W.findIn K (.ref cR) "need_name" = some (some (.ref m_need_name))) (M_need_name : MIn K "need_name" "Reader.need_name" sNeedName m_need_name)
    (h_need_number : PySem.W.findIn K (.ref cR) "need_number" = some (some (.ref m_need_number))) (M_need_number : MIn K "need_number" "Reader.need_number" sNeedNumber m_need_number)
    (h_need_end : PySem.W.findIn K (.ref cR) "need_end" = some (some (.ref m_need_end))) (M_need_end : MIn K "need_end" "Reader.need_end" sNeedEnd m_need_end)
    (h_kind_at : PySem.W.findIn K (.ref cT) "kind_at" = some (some (.ref m_kind_at))) (M_kind_at : MIn K "kind_at" "Table.kind_at" sKindAt m_kind_at)
    (h_fields_of : PySem.W.findIn K (.ref cT) "fields_of" = some (some (.ref m_fields_of))) (M_fields_of : MIn K "fields_of" "Table.fields_of" sFieldsOf m_fields_of)
    (n_MOST_FIGURES : PySem.W.nsIn K mainGlobals "MOST_FIGURES" = some (some (.int 9 k_MOST_FIGURES)))
    (n_LONGEST_NAME : PySem.W.nsIn K mainGlobals "LONGEST_NAME" = some (some (.int 8 k_LONGEST_NAME)))
    (n_MOST_ROWS : PySem.W.nsIn K mainGlobals "MOST_ROWS" = some (some (.int 40 k_MOST_ROWS)))
    (n_MOST_TOKENS : PySem.W.nsIn K mainGlobals "MOST_TOKENS" = some (some (.int 1500 k_MOST_TOKENS)))
    (n_MOST_KINDS : PySem.W.nsIn K mainGlobals "MOST_KINDS" = some (some (.int 8 k_MOST_KINDS)))
    (n_MOST_FIELDS : PySem.W.nsIn K mainGlobals "MOST_FIELDS" = some (some (.int 3 k_MOST_FIELDS)))
    (n_MOST_SETS : PySem.W.nsIn K mainGlobals "MOST_SETS" = some (some (.int 4 k_MOST_SETS)))
    (n_MOST_CHOICES : PySem.W.nsIn K mainGlobals "MOST_CHOICES" = some (some (.int 3 k_MOST_CHOICES)))
    (n_MOST_SIGNS : PySem.W.nsIn K mainGlobals "MOST_SIGNS" = some (some (.int 20000 k_MOST_SIGNS)))
    (n_FIGURES : PySem.W.nsIn K mainGlobals "FIGURES" = some (some (.str "0123456789" k_FIGURES)))
    (n_LETTERS : PySem.W.nsIn K mainGlobals "LETTERS" = some (some (.str "abcdefghijklmnopqrstuvwxyz" k_LETTERS)))
    (n_BELL : PySem.W.nsIn K mainGlobals "BELL" = some (some (.str "bell" k_BELL)))
    (n_GAPS : PySem.W.nsIn K mainGlobals "GAPS" = some (some (.str " \n" k_GAPS)))
    (n_SINGLE_SIGNS : PySem.W.nsIn K mainGlobals "SINGLE_SIGNS" = some (some (.str "(){}[],;+-&|^<=" k_SINGLE_SIGNS)))
    (n_OWN_WORDS : PySem.W.nsIn K mainGlobals "OWN_WORDS" = some (some (.ref a_OWN_WORDS))) (q_OWN_WORDS : ∀ H, SqT K H a_OWN_WORDS (strsV ownL))
    (n_SORTS : PySem.W.nsIn K mainGlobals "SORTS" = some (some (.ref a_SORTS))) (q_SORTS : ∀ H, SqT K H a_SORTS (strsV sortL))
    (n_ENDS : PySem.W.nsIn K mainGlobals "ENDS" = some (some (.ref a_ENDS))) (q_ENDS : ∀ H, SqT K H a_ENDS (strsV ["next", "go", "call", "back", "stop", "fault"]))
    (n_OWN_FAULTS : PySem.W.nsIn K mainGlobals "OWN_FAULTS" = some (some (.ref a_OWN_FAULTS))) (q_OWN_FAULTS : ∀ H, SqT K H a_OWN_FAULTS (strsV ["deep", "bare"]))
    (n_DOUBLE_SIGNS : PySem.W.nsIn K mainGlobals "DOUBLE_SIGNS" = some (some (.ref a_DOUBLE_SIGNS))) (q_DOUBLE_SIGNS : ∀ H, SqT K H a_DOUBLE_SIGNS ([.str "<<", .str ">>"]))
    (z_len : PySem.W.nsIn K mainGlobals "len" = some none)
    (z_int : PySem.W.nsIn K mainGlobals "int" = some none)
    (z_max : PySem.W.nsIn K mainGlobals "max" = some none)
    (z_min : PySem.W.nsIn K mainGlobals "min" = some none)
    (z_range : PySem.W.nsIn K mainGlobals "range" = some none)
    (z_isinstance : PySem.W.nsIn K mainGlobals "isinstance" = some none)
    (z_list : PySem.W.nsIn K mainGlobals "list" = some none)
    (z_str : PySem.W.nsIn K mainGlobals "str" = some none)
    (z_bool : PySem.W.nsIn K mainGlobals "bool" = some none)
    (z_tuple : PySem.W.nsIn K mainGlobals "tuple" = some none)
    (z_all : PySem.W.nsIn K mainGlobals "all" = some none)
    (z_dict : PySem.W.nsIn K mainGlobals "dict" = some none)
    (z_enumerate : PySem.W.nsIn K mainGlobals "enumerate" = some none)
    (z_zip : PySem.W.nsIn K mainGlobals "zip" = some none) :
    ∃ fd : FuncData, (∀ (s : Shared) (v : Value), BindsTo s fd ⟨[v], []⟩ [("_law_script", v)]) ∧ ∀ base : Heap, K.In base → base.Ns mainGlobals mg → FnOk l.prog w K mg base CX0 9 fa fd ["_law_script"] (spLaw K) := by
  have B : Bl mg := ⟨PySem.W.mg_none_of X G z_len, PySem.W.mg_none_of X G z_int, PySem.W.mg_none_of X G z_max, PySem.W.mg_none_of X G z_min, PySem.W.mg_none_of X G z_range, PySem.W.mg_none_of X G z_isinstance, PySem.W.mg_none_of X G z_list, PySem.W.mg_none_of X G z_str, PySem.W.mg_none_of X G z_bool, PySem.W.mg_none_of X G z_tuple, PySem.W.mg_none_of X G z_all⟩
  have B3 : Bl3 mg := ⟨PySem.W.mg_none_of X G z_dict, PySem.W.mg_none_of X G z_enumerate⟩
  have B4 : Bl4 mg := ⟨PySem.W.mg_none_of X G z_zip⟩
  have Z : TopT K mg a_SORTS a_ENDS a_OWN_FAULTS k_MOST_FIELDS k_MOST_SETS k_MOST_CHOICES k_MOST_KINDS := ⟨(PySem.W.mg_of X G n_SORTS), q_SORTS, (PySem.W.mg_of X G n_ENDS), q_ENDS, (PySem.W.mg_of X G n_OWN_FAULTS), q_OWN_FAULTS, (PySem.W.mg_of X G n_MOST_FIELDS), (PySem.W.mg_of X G n_MOST_SETS), (PySem.W.mg_of X G n_MOST_CHOICES), (PySem.W.mg_of X G n_MOST_KINDS)⟩
  have CN : CstN K mg a_OWN_WORDS k_LETTERS k_LONGEST_NAME := ⟨(PySem.W.mg_of X G n_OWN_WORDS), q_OWN_WORDS, (PySem.W.mg_of X G n_LETTERS), (PySem.W.mg_of X G n_LONGEST_NAME)⟩
  have CT2 : CstT K mg a_DOUBLE_SIGNS k_GAPS k_SINGLE_SIGNS := ⟨(PySem.W.mg_of X G n_GAPS), (PySem.W.mg_of X G n_SINGLE_SIGNS), (PySem.W.mg_of X G n_DOUBLE_SIGNS), q_DOUBLE_SIGNS, B.len⟩
  have ZB : Zb mg k_BELL := ⟨(PySem.W.mg_of X G n_BELL)⟩
  have ZR : Zr mg k_MOST_ROWS := ⟨(PySem.W.mg_of X G n_MOST_ROWS)⟩
  have RC : Rc K cR := ⟨CR.cls, CR.na.1, CR.na.2.1, CR.na.2.2.1⟩
  have TC : Tc K cT := ⟨CT.cls, CT.na.get⟩
  have PC : Pc K cP := ⟨CP.cls, CP.na.1, CP.na.2.1⟩
  obtain ⟨a14, fd, F⟩ := d46
  have e := hfa.symm.trans (PySem.W.mg_of X G a14)
  cases e
  obtain ⟨oc, od, kV, doc, pm, an, cdv, ct, osl, rfl, lk, hcd⟩ := id F.ex
  refine ⟨PySem.W.fnOf "law" "law" (defArgs sLaw) (defBody sLaw) (defScope sLaw) .none kV doc pm an cdv ct, fun s v => .of_eq rfl, fun base _ _ => ?_⟩
  have WH := fn_mk (P := l.prog) (w := w) (base := base) X G d1 (fun _ _ _ _ _ _ us hl => match us, hl with | [_], _ => rfl) (fun fd F => ok_whole F B)
  have WI := fn_mk (P := l.prog) (w := w) (base := base) X G d2 (fun _ _ _ _ _ _ us hl => match us, hl with | [_, _, _], _ => rfl) (fun fd F => ok_within F WH)
  have WO := fn_mk (P := l.prog) (w := w) (base := base) X G d3 (fun _ _ _ _ _ _ us hl => match us, hl with | [_, _], _ => rfl) (fun fd F => ok_word F WI)
  have NM := fn_mk (P := l.prog) (w := w) (base := base) X G d4 (fun _ _ _ _ _ _ us hl => match us, hl with | [_], _ => rfl) (fun fd F => ok_name F B CN)
  have NU := fn_mk (P := l.prog) (w := w) (base := base) X G d0 (fun _ _ _ _ _ _ us hl => match us, hl with | [_], _ => rfl) (fun fd F => ok_numberOf F B (PySem.W.mg_of X G n_FIGURES) (PySem.W.mg_of X G n_MOST_FIGURES))
  have RM : Rm l.prog w K mg base cR := ⟨RC, (mth_mk (P := l.prog) (w := w) (mg := mg) (base := base) h_look M_look (fun _ _ _ _ _ _ us hl => match us, hl with | [_], _ => rfl) (fun fd F => ok_look F RC)), (mth_mk (P := l.prog) (w := w) (mg := mg) (base := base) h_take M_take (fun _ _ _ _ _ _ us hl => match us, hl with | [_], _ => rfl) (fun fd F => ok_tk F RC))⟩
  have RM2 : Rm2 l.prog w K mg base cR := ⟨RM, (mth_mk (P := l.prog) (w := w) (mg := mg) (base := base) h_need M_need (fun _ _ _ _ _ _ us hl => match us, hl with | [_, _], _ => rfl) (fun fd F => ok_need F RM)), (mth_mk (P := l.prog) (w := w) (mg := mg) (base := base) h_need_name M_need_name (fun _ _ _ _ _ _ us hl => match us, hl with | [_], _ => rfl) (fun fd F => ok_needName F RM NM)), (mth_mk (P := l.prog) (w := w) (mg := mg) (base := base) h_need_number M_need_number (fun _ _ _ _ _ _ us hl => match us, hl with | [_, _, _], _ => rfl) (fun fd F => ok_needNumber F RM NU WI)), (mth_mk (P := l.prog) (w := w) (mg := mg) (base := base) h_need_end M_need_end (fun _ _ _ _ _ _ us hl => match us, hl with | [_], _ => rfl) (fun fd F => ok_needEnd F RM B))⟩
  obtain ⟨fdR, INR, bIR⟩ := ini_mk (P := l.prog) (w := w) (mg := mg) (base := base) IR (fun _ _ _ _ _ _ us hl => match us, hl with | [_, _], _ => rfl) (fun fd F => ok_rInit F RC B (PySem.W.mg_of X G n_MOST_TOKENS))
  obtain ⟨fdT, INT, bIT⟩ := ini_mk (P := l.prog) (w := w) (mg := mg) (base := base) IT (fun _ _ _ _ _ _ us hl => match us, hl with | [_, _, _, _, _, _, _, _], _ => rfl) (fun fd F => ok_tInit F TC B)
  obtain ⟨fdP, INP, bIP⟩ := ini_mk (P := l.prog) (w := w) (mg := mg) (base := base) IP (fun _ _ _ _ _ _ us hl => match us, hl with | [_, _, _], _ => rfl) (fun fd F => ok_pInit F PC B)
  have BO := fn_mk (P := l.prog) (w := w) (base := base) X G d14 (fun _ _ _ _ _ _ us hl => match us, hl with | [_, _, _, _], _ => rfl) (fun fd F => ok_bounded F RM2)
  have NA := fn_mk (P := l.prog) (w := w) (base := base) X G d15 (fun _ _ _ _ _ _ us hl => match us, hl with | [_, _, _, _], _ => rfl) (fun fd F => ok_names F RM2 B)
  have FL := fn_mk (P := l.prog) (w := w) (base := base) X G d18 (fun _ _ _ _ _ _ us hl => match us, hl with | [_], _ => rfl) (fun fd F => ok_field F RM2 Z)
  have EN := fn_mk (P := l.prog) (w := w) (base := base) X G d21 (fun _ _ _ _ _ _ us hl => match us, hl with | [_], _ => rfl) (fun fd F => ok_end F RM2 Z)
  have LF := fn_mk (P := l.prog) (w := w) (base := base) X G d20 (fun _ _ _ _ _ _ us hl => match us, hl with | [_, _], _ => rfl) (fun fd F => ok_leaf F RM2 Z B EN)
  have BD := fn_mk (P := l.prog) (w := w) (base := base) X G d19 (fun _ _ _ _ _ _ us hl => match us, hl with | [_, _, _], _ => rfl) (fun fd F => ok_body F RM2 Z LF)
  have FS := fn_mk (P := l.prog) (w := w) (base := base) X G d17 (fun _ _ _ _ _ _ us hl => match us, hl with | [_], _ => rfl) (fun fd F => ok_fields F RM2 Z B FL)
  have KD := fn_mk (P := l.prog) (w := w) (base := base) X G d16 (fun _ _ _ _ _ _ us hl => match us, hl with | [_, _], _ => rfl) (fun fd F => ok_kind F RM2 FS BD)
  have RF := fn_mk (P := l.prog) (w := w) (base := base) X G d13 (fun _ _ _ _ _ _ us hl => match us, hl with | [_], _ => rfl) (fun fd F => ok_form F RM2 Z B CR.mk_ (PySem.W.mg_of X G CR.ns) INR bIR BO NA KD)
  have AN := fn_mk (P := l.prog) (w := w) (base := base) X G d23 (fun _ _ _ _ _ _ us hl => match us, hl with | [_, _, _, _], _ => rfl) (fun fd F => ok_addName F)
  have NK := fn_mk (P := l.prog) (w := w) (base := base) X G d24 (fun _ _ _ _ _ _ us hl => match us, hl with | [_, _, _], _ => rfl) (fun fd F => ok_needKnown F)
  have EO := fn_mk (P := l.prog) (w := w) (base := base) X G d28 (fun _ _ _ _ _ _ us hl => match us, hl with | [_, _], _ => rfl) (fun fd F => ok_endOf F)
  have SO : Fn l.prog w K mg base "set_of" 1 ["names", "given"] spNo := fn_mk (P := l.prog) (w := w) (base := base) X G d29 (fun _ _ _ _ _ _ us hl => match us, hl with | [_, _], _ => rfl) (fun fd F => fnok_no)
  have DO := fn_mk (P := l.prog) (w := w) (base := base) X G d27 (fun _ _ _ _ _ _ us hl => match us, hl with | [_, _], _ => rfl) (fun fd F => ok_deedOf F B EO SO)
  have NW := fn_mk (P := l.prog) (w := w) (base := base) X G d26 (fun _ _ _ _ _ _ us hl => match us, hl with | [_, _], _ => rfl) (fun fd F => ok_nwf F B3 AN)
  have KN := fn_mk (P := l.prog) (w := w) (base := base) X G d25 (fun _ _ _ _ _ _ us hl => match us, hl with | [_, _], _ => rfl) (fun fd F => ok_kn F B NW DO)
  have TF := fn_mk (P := l.prog) (w := w) (base := base) X G d22 (fun _ _ _ _ _ _ us hl => match us, hl with | [_], _ => rfl) (fun fd F => ok_tf F B B3 CT.mk_ (PySem.W.mg_of X G CT.ns) INT bIT AN NK KN)
  have SG := fn_mk (P := l.prog) (w := w) (base := base) X G d31 (fun _ _ _ _ _ _ us hl => match us, hl with | [_, _], _ => rfl) (fun fd F => ok_sign F CT2)
  have RN := fn_mk (P := l.prog) (w := w) (base := base) X G d32 (fun _ _ _ _ _ _ us hl => match us, hl with | [_, _], _ => rfl) (fun fd F => ok_run F CT2 SG)
  have TO := fn_mk (P := l.prog) (w := w) (base := base) X G d30 (fun _ _ _ _ _ _ us hl => match us, hl with | [_], _ => rfl) (fun fd F => ok_toks F CT2 SG RN)
  have RT := fn_mk (P := l.prog) (w := w) (base := base) X G d33 (fun _ _ _ _ _ _ us hl => match us, hl with | [_], _ => rfl) (fun fd F => ok_rt F B (PySem.W.mg_of X G n_MOST_SIGNS) TO RF TF)
  have KA : MthOk l.prog w K mg base cT "kind_at" 1 ["self", "kind"] (spKindAt cT) := (mth_mk (P := l.prog) (w := w) (mg := mg) (base := base) h_kind_at M_kind_at (fun _ _ _ _ _ _ us hl => match us, hl with | [_, _], _ => rfl) (fun fd F => ok_kindAt F TC))
  have FO : MthOk l.prog w K mg base cT "fields_of" 2 ["self", "kind"] (spFO cT) := (mth_mk (P := l.prog) (w := w) (mg := mg) (base := base) h_fields_of M_fields_of (fun _ _ _ _ _ _ us hl => match us, hl with | [_, _], _ => rfl) (fun fd F => ok_fo F TC KA))
  have IO := fn_mk (P := l.prog) (w := w) (base := base) X G d6 (fun _ _ _ _ _ _ us hl => match us, hl with | [_, _, _, _], _ => rfl) (fun fd F => ok_operand F TC B WI WO)
  have IR2 := fn_mk (P := l.prog) (w := w) (base := base) X G d5 (fun _ _ _ _ _ _ us hl => match us, hl with | [_, _, _], _ => rfl) (fun fd F => ok_isRow F TC B B4 FO IO)
  have OS := fn_mk (P := l.prog) (w := w) (base := base) X G d8 (fun _ _ _ _ _ _ us hl => match us, hl with | [_, _, _], _ => rfl) (fun fd F => ok_os F TC B)
  have OR := fn_mk (P := l.prog) (w := w) (base := base) X G d12 (fun _ _ _ _ _ _ us hl => match us, hl with | [_, _, _], _ => rfl) (fun fd F => ok_ord F TC NU)
  have RB := fn_mk (P := l.prog) (w := w) (base := base) X G d10 (fun _ _ _ _ _ _ us hl => match us, hl with | [_, _], _ => rfl) (fun fd F => ok_rb F B ZB NU WI)
  have RR := fn_mk (P := l.prog) (w := w) (base := base) X G d11 (fun _ _ _ _ _ _ us hl => match us, hl with | [_, _, _], _ => rfl) (fun fd F => ok_rr F TC B B4 FO OR IR2)
  have PO := po_mk (P := l.prog) (w := w) (base := base) X G dPO (fun fd F => ok_po F B B3 ZR CP.mk_ (PySem.W.mg_of X G CP.ns) INP bIP IR2 WI)
  have SH := fn_mk (P := l.prog) (w := w) (base := base) X G d7 (fun _ _ _ _ _ _ us hl => match us, hl with | [_, _], _ => rfl) (fun fd F => ok_show F TC PC B B4 ZB FO OS)
  have RP := fn_mk (P := l.prog) (w := w) (base := base) X G d9 (fun _ _ _ _ _ _ us hl => match us, hl with | [_, _], _ => rfl) (fun fd F => ok_rp F B B3 ZB ZR CP.mk_ (PySem.W.mg_of X G CP.ns) INP bIP RB RR)
  have CL := fn_mk (P := l.prog) (w := w) (base := base) X G d34 (fun _ _ _ _ _ _ us hl => match us, hl with | [_, _], _ => rfl) (fun fd F => ok_cell F B)
  have ST := fn_mk (P := l.prog) (w := w) (base := base) X G d35 (fun _ _ _ _ _ _ us hl => match us, hl with | [_], _ => rfl) (fun fd F => ok_stream F B)
  have TK1 := fn_mk (P := l.prog) (w := w) (base := base) X G d36 (fun _ _ _ _ _ _ us hl => match us, hl with | [_, _], _ => rfl) (fun fd F => ok_take F)
  have LN := fn_mk (P := l.prog) (w := w) (base := base) X G d37 (fun _ _ _ _ _ _ us hl => match us, hl with | [_, _], _ => rfl) (fun fd F => ok_lnames F B TK1)
  have SHP := fn_mk (P := l.prog) (w := w) (base := base) X G d38 (fun _ _ _ _ _ _ us hl => match us, hl with | [_], _ => rfl) (fun fd F => ok_shape F B TK1 LN)
  have TX := fn_mk (P := l.prog) (w := w) (base := base) X G d39 (fun _ _ _ _ _ _ us hl => match us, hl with | [_], _ => rfl) (fun fd F => ok_st F B B3)
  have BN := fn_mk (P := l.prog) (w := w) (base := base) X G d40 (fun _ _ _ _ _ _ us hl => match us, hl with | [_, _, _], _ => rfl) (fun fd F => ok_bounds F B)
  have SR := fn_mk (P := l.prog) (w := w) (base := base) X G d41 (fun _ _ _ _ _ _ us hl => match us, hl with | [_, _, _], _ => rfl) (fun fd F => ok_sr F B TK1 BN)
  have LL := fn_mk (P := l.prog) (w := w) (base := base) X G d42 (fun _ _ _ _ _ _ us hl => match us, hl with | [_, _], _ => rfl) (fun fd F => ok_line F B B4)
  have LW := fn_mk (P := l.prog) (w := w) (base := base) X G d43 (fun _ _ _ _ _ _ us hl => match us, hl with | [_], _ => rfl) (fun fd F => ok_lwhole F B)
  have LS := fn_mk (P := l.prog) (w := w) (base := base) X G d44 (fun _ _ _ _ _ _ us hl => match us, hl with | [_, _, _], _ => rfl) (fun fd F => ok_lsame F PC B LW)
  have GD := fn_mk (P := l.prog) (w := w) (base := base) X G d45 (fun _ _ _ _ _ _ us hl => match us, hl with | [_, _, _], _ => rfl) (fun fd F => ok_good F B TK1 SR LL SH PO RP LS)
  exact ok_law F B CL ST SHP TX RT GD
end L3
namespace PySem.W.Fast
def tw10006469737622552430:=0
def tw10012780396505340689:=0
def tw10042670647254268559:=0
def tw10103412367618147436:=0
def tw10104062076422840416:=0
def tw10109417093093304361:=0
def tw10156647766770029001:=0
def tw10185731416769052093:=0
def tw10194864201000845586:=0
def tw10216685518481944916:=0
def tw10229051029799435273:=0
def tw10252485507771057793:=0
def tw10296340963545018472:=0
def tw10296973918870035128:=0
def tw10320136272445760980:=0
def tw10333961619178614959:=0
def tw10376942766089120663:=0
def tw10404892742581241728:=0
def tw10439445356565322274:=0
def tw10456871266379388596:=0
def tw10524789779580672404:=0
def tw10554496425875230220:=0
def tw1057243597657875862:=0
def tw10581663489771403832:=0
def tw10611380557804701985:=0
def tw1063230364679527063:=0
def tw10661020404974317435:=0
def tw10700857883102335709:=0
def tw1070192460443887321:=0
def tw10711011566274817113:=0
def tw10753465587179238639:=0
def tw10754241192330041193:=0
def tw10807813767737141750:=0
def tw10835797793507061436:=0
def tw1084197321592650046:=0
def tw10855199274139755384:=0
def tw10857190168968961339:=0
def tw10874172164541794175:=0
def tw10890636732517479571:=0
def tw10905832145571758190:=0
def tw10905984134914358362:=0
def tw10924969992852142751:=0
def tw10926488582516722629:=0
def tw10975039950294439217:=0
def tw10979338790934359349:=0
def tw11007911493941162346:=0
def tw11069398275689023110:=0
def tw11075598995828076547:=0
def tw11081728838591627326:=0
def tw11096177942289317699:=0
def tw11110589748257585419:=0
def tw11116747741393482605:=0
def tw11144553413731449289:=0
def tw11180744580416721507:=0
def tw11199540610198180157:=0
def tw11247590469175029841:=0
def tw11256455323129533945:=0
def tw11261783085270795708:=0
def tw11262762407555330984:=0
def tw11269082943995643235:=0
def tw11316538694726884873:=0
def tw1133143179010171076:=0
def tw11339626996105397843:=0
def tw11359499095178135522:=0
def tw11360809497829692565:=0
def tw11363184797288697174:=0
def tw11395393610860983738:=0
def tw11441570780018307412:=0
def tw11495431893949443871:=0
def tw11537329798148213225:=0
def tw1160373845208076874:=0
def tw1160812072477478591:=0
def tw1164298282437091108:=0
def tw1166551854427246812:=0
def tw1169604333947453782:=0
def tw11715300212785904954:=0
def tw11755456007859076298:=0
def tw11764486528858015579:=0
def tw11773723832051787182:=0
def tw11795513543012606148:=0
def tw11813529888270233018:=0
def tw11827396768101002197:=0
def tw11853903460770830668:=0
def tw1191201448904169058:=0
def tw11923197549641508276:=0
def tw11951722428870122201:=0
def tw11984044775600884386:=0
def tw11986449727080209442:=0
def tw11995741490123426734:=0
def tw12052789077967914267:=0
def tw1205415569691646506:=0
def tw12102673376284970647:=0
def tw12112374670736711609:=0
def tw12125190872969672652:=0
def tw12162348886132236673:=0
def tw12220498344369206842:=0
def tw12273732406105897106:=0
def tw12279788783537200684:=0
def tw12379172634547517480:=0
def tw12380592251955995242:=0
def tw12396761333279630003:=0
def tw12398642738574972799:=0
def tw12400740530553648054:=0
def tw12401084500262432204:=0
def tw12406042339461357622:=0
def tw12415800341980955686:=0
def tw12444223149294667368:=0
def tw1246442126712554468:=0
def tw12538195353636772602:=0
def tw12564401741949718233:=0
def tw12573173740264068490:=0
def tw12593428830339236667:=0
def tw12607655293690430144:=0
def tw12610323122469559775:=0
def tw12640965089939055191:=0
def tw12673878933223116068:=0
def tw1268800884680647464:=0
def tw12737568826306783205:=0
def tw12759762106643909396:=0
def tw12795449360801713837:=0
def tw1281152912857212881:=0
def tw12864253648367627085:=0
def tw12873282121743161654:=0
def tw12875232905381482048:=0
def tw128905620376240757:=0
def tw12930731020496356336:=0
def tw12938625614933413112:=0
def tw12957612847370107284:=0
def tw12966064131802285807:=0
def tw12975411206948736766:=0
def tw13037098118943035131:=0
def tw13037135025236182900:=0
def tw13040230119475978845:=0
def tw13057361091312099013:=0
def tw13073008171773389767:=0
def tw13099296610849396961:=0
def tw13102113425192285357:=0
def tw13102947663829051220:=0
def tw13103210299357958688:=0
def tw13150489929990624248:=0
def tw13188577618148459798:=0
def tw13189290953716868771:=0
def tw13235821368219466964:=0
def tw13237769222594871499:=0
def tw1327455354076298972:=0
def tw13275481670996824944:=0
def tw13293719442515815121:=0
def tw13294808539352354138:=0
def tw13325811179183877366:=0
def tw13336710289047942278:=0
def tw13386016834678343580:=0
def tw13397402409383724774:=0
def tw13413930132319541802:=0
def tw13450039688522743109:=0
def tw13455902319177240656:=0
def tw13596203319776074473:=0
def tw13642046772670186900:=0
def tw13644287355500436279:=0
def tw1364687131145083770:=0
def tw13649692151914476437:=0
def tw13739483306951154678:=0
def tw13747635780201916280:=0
def tw13753533555548418975:=0
def tw13780044421914321671:=0
def tw13793060641066150119:=0
def tw1380612192604599791:=0
def tw13829843509558540128:=0
def tw13840119059424866263:=0
def tw13851966310987103379:=0
def tw13875544534221724908:=0
def tw13924796763613375441:=0
def tw1393205487854241915:=0
def tw13998875473793796226:=0
def tw14007043986444493007:=0
def tw14010012669917814039:=0
def tw14016117573054853182:=0
def tw14032105052344677091:=0
def tw14092862082639712125:=0
def tw14102863059119751258:=0
def tw14121038409731832334:=0
def tw14166810572693259386:=0
def tw14178897602080361277:=0
def tw14227109401176885489:=0
def tw14237979886262719961:=0
def tw14280294835755138371:=0
def tw14285259868390580179:=0
def tw1431733815715822996:=0
def tw14326579699782888035:=0
def tw14328593703048199616:=0
def tw14365890229295380082:=0
def tw14485352507184842011:=0
def tw1448915310110853826:=0
def tw1449147993808386769:=0
def tw14494110957844712799:=0
def tw14506065950724992173:=0
def tw14527644515601877519:=0
def tw14538169106886668991:=0
def tw14590357172723589525:=0
def tw14626210169900049564:=0
def tw14636411889927439272:=0
def tw14678531001340466554:=0
def tw1469254221327199956:=0
def tw1472413158126509196:=0
def tw14742298266481198442:=0
def tw14824803471283275026:=0
def tw1485040057435523548:=0
def tw14866874092803568908:=0
def tw14881914151258057844:=0
def tw14896229203564280385:=0
def tw14907327958175140547:=0
def tw14933868797239577679:=0
def tw14959893794926869656:=0
def tw14970716782222577990:=0
def tw15095800751396508702:=0
def tw15165622091274549595:=0
def tw15172635020424295934:=0
def tw15178529453005943003:=0
def tw15204844234257022152:=0
def tw15206297970638288283:=0
def tw15251402297605743924:=0
def tw15253106052829928808:=0
def tw15274368012457814281:=0
def tw15296316563389325396:=0
def tw153363422862488704:=0
def tw15347400715648847619:=0
def tw15371119217516612922:=0
def tw15389203719571877291:=0
def tw15408559718573345694:=0
def tw1545101855584778316:=0
def tw15458493297582604788:=0
def tw15476351282452235750:=0
def tw15484223109428421540:=0
def tw15551802531417554878:=0
def tw15567052587605452727:=0
def tw15650295333522210969:=0
def tw15683042359598234180:=0
def tw15687197925335650087:=0
def tw15722840484929658467:=0
def tw15730337464675620661:=0
def tw15734536412688810949:=0
def tw15740799647982715333:=0
def tw15762311305480710720:=0
def tw15797633272067911335:=0
def tw15810204467310395976:=0
def tw15902824748137236223:=0
def tw15915085855564109898:=0
def tw15957915760646362966:=0
def tw15958884715895434045:=0
def tw15968616774709039821:=0
def tw16004098869653908227:=0
def tw16007404632580021827:=0
def tw1604695960343058601:=0
def tw16073939957265347702:=0
def tw16087803863422792235:=0
def tw16090806472780267697:=0
def tw16127392008923926808:=0
def tw16147202615034172081:=0
def tw16166693655108477854:=0
def tw16190573786615482365:=0
def tw16256668566504415259:=0
def tw16265468196229238879:=0
def tw16279162165357863725:=0
def tw1628978988691233845:=0
def tw16291948917261737443:=0
def tw16332878220264085824:=0
def tw16353064110351995431:=0
def tw16360182338620318892:=0
def tw16382112792992686962:=0
def tw16385038561743918068:=0
def tw16455281329984833295:=0
def tw16538051177153773318:=0
def tw16548702880358394576:=0
def tw16559126555091930446:=0
def tw16579686340517703170:=0
def tw16658043960456853414:=0
def tw16669584568633743171:=0
def tw16695113980753615616:=0
def tw16711238233553920346:=0
def tw16711548573926364247:=0
def tw16734628336740779149:=0
def tw16840931237332922094:=0
def tw16920018443818360148:=0
def tw16920498025636805704:=0
def tw16926141372883104096:=0
def tw16951693984959403738:=0
def tw16967662847699379071:=0
def tw16995926352729206080:=0
def tw16998823103221156898:=0
def tw17040861400315241886:=0
def tw17047187935432480569:=0
def tw17059563791313853053:=0
def tw17082775551379449445:=0
def tw17102764138887427139:=0
def tw17109689757767293485:=0
def tw17156690895271782594:=0
def tw17160375354933842635:=0
def tw17203615284221332085:=0
def tw17230347189244816820:=0
def tw1724187588236757871:=0
def tw17262960267868076260:=0
def tw1727459214607582071:=0
def tw17288002300640658135:=0
def tw17294262462689167522:=0
def tw17298400315831077363:=0
def tw17315971129855715276:=0
def tw17317662381987588546:=0
def tw17417944681327304597:=0
def tw17470690480714652718:=0
def tw17522991995655447212:=0
def tw17523706075012559757:=0
def tw17563121633944168837:=0
def tw17595905144053984331:=0
def tw17603622816573607403:=0
def tw17604890380080452780:=0
def tw17613894170500506538:=0
def tw1761440259362931900:=0
def tw17624507972935408148:=0
def tw17745511006844936729:=0
def tw1774913295203620097:=0
def tw17758529228814911699:=0
def tw17815219153653899832:=0
def tw17821010463874481399:=0
def tw17826715688276394479:=0
def tw17828157009451802727:=0
def tw17882445806682682449:=0
def tw17950591089311624219:=0
def tw17968991887893326285:=0
def tw18000972611366662790:=0
def tw18017136324483526909:=0
def tw18028708226580982489:=0
def tw18047346859228200420:=0
def tw18076686798481458349:=0
def tw18116079108538203912:=0
def tw18142488722761522101:=0
def tw18170504279078211861:=0
def tw18243826520776960526:=0
def tw18336124963763435669:=0
def tw18347339177302916123:=0
def tw18365432975126285263:=0
def tw18371052156645585872:=0
def tw18398927755966231838:=0
def tw18429590709831377148:=0
def tw18431920190702703682:=0
def tw1864676883826315073:=0
def tw1956713187750813808:=0
def tw1971126990914628989:=0
def tw1982814674882670313:=0
def tw1985413108041085337:=0
def tw1987906107404476745:=0
def tw1994624600585353256:=0
def tw2000658263584796471:=0
def tw2010576971210991797:=0
def tw2049020007951932093:=0
def tw2144205106763233905:=0
def tw2190891444292970084:=0
def tw2205147428359783278:=0
def tw2214571911005084509:=0
def tw2237142999354653468:=0
def tw2242239377412413423:=0
def tw2271939435817749001:=0
def tw2294450902476942747:=0
def tw2302737745360463601:=0
def tw2306278800000699786:=0
def tw2356031837613764906:=0
def tw235706875718440014:=0
def tw237816645212537608:=0
def tw2416141837025951060:=0
def tw2421876534532891216:=0
def tw2433243271631951193:=0
def tw2471203845204337810:=0
def tw2478751411909130295:=0
def tw2488350431125705118:=0
def tw2492759147615030669:=0
def tw2494927748456827200:=0
def tw2507373542901200149:=0
def tw2532743823870466985:=0
def tw2538120900128960981:=0
def tw2544315145941437495:=0
def tw2551191487273528756:=0
def tw2569169222548698122:=0
def tw2583230270462252759:=0
def tw2587316520953388848:=0
def tw2593998490711752293:=0
def tw2613283725310125099:=0
def tw2618710886228215277:=0
def tw2632894230121779963:=0
def tw267334260551514657:=0
def tw2684554846107065626:=0
def tw2804108021180607337:=0
def tw2807155015101586594:=0
def tw2812888041359116395:=0
def tw2813073183987818550:=0
def tw2814890323310814044:=0
def tw283047246210840488:=0
def tw2853490150118632347:=0
def tw2861707550594672332:=0
def tw2873251573672126297:=0
def tw288154029554446799:=0
def tw2910650054134866034:=0
def tw2919809762518018010:=0
def tw2925828797144258383:=0
def tw2953585828354832820:=0
def tw2982694667715022669:=0
def tw2998565927986854460:=0
def tw3011176089687059817:=0
def tw3048602177211400580:=0
def tw3053686659662516010:=0
def tw3108255958755368384:=0
def tw3139583522908287467:=0
def tw3155465117121830688:=0
def tw3180759943166927594:=0
def tw3184035047321530323:=0
def tw3198134390237544739:=0
def tw3245906193499973791:=0
def tw3261693101840107830:=0
def tw3273583222076106014:=0
def tw3314065198069643340:=0
def tw3344365091545236129:=0
def tw3355727140589800384:=0
def tw3422551126142415257:=0
def tw342386079995933673:=0
def tw3456571984540012405:=0
def tw3461320598897672527:=0
def tw3473956164777325538:=0
def tw3482551800762043609:=0
def tw3487971626642137982:=0
def tw3537136166171524292:=0
def tw3643010819698318604:=0
def tw3688132262004860718:=0
def tw3762975937316344633:=0
def tw3780723380086008048:=0
def tw3793578558995504415:=0
def tw3880616568978797685:=0
def tw3920850520327333131:=0
def tw393171333140103863:=0
def tw3948900940562811560:=0
def tw3951722007221570539:=0
def tw3979993231850435002:=0
def tw4023275246132548903:=0
def tw4027202864592764241:=0
def tw4048664866052055088:=0
def tw4098562464410612354:=0
def tw4101960013082575056:=0
def tw4113609166378235939:=0
def tw4155113825136002017:=0
def tw417261207834636473:=0
def tw418654472526766016:=0
def tw4199432178893884671:=0
def tw4207722234318689226:=0
def tw4218567650965613490:=0
def tw4244824136126498093:=0
def tw4260913568875885355:=0
def tw4377262374874673221:=0
def tw4385276230677048990:=0
def tw4388574908053610163:=0
def tw4406265018827551716:=0
def tw4411696810795850006:=0
def tw4475595741394271605:=0
def tw4490533451930824396:=0
def tw4504880316824967231:=0
def tw4552167615417145094:=0
def tw4562483236688648829:=0
def tw4569781861206010392:=0
def tw4604703643050067756:=0
def tw4750773892004101806:=0
def tw4762906470963072539:=0
def tw4783021109382169116:=0
def tw4839241420488675357:=0
def tw4846134803038274574:=0
def tw4856141149473856741:=0
def tw4857678160105145010:=0
def tw489538392303317102:=0
def tw4904834330536499593:=0
def tw4908269302630442627:=0
def tw4937999281267900105:=0
def tw4961299518339016167:=0
def tw4975968626670126940:=0
def tw4982513593062093038:=0
def tw4987130590006107351:=0
def tw4993063661035000484:=0
def tw5030758091403363411:=0
def tw5043300033673950582:=0
def tw5084484200032790707:=0
def tw5096930855078813013:=0
def tw5126467193036794071:=0
def tw513851035965318378:=0
def tw5161458017186624177:=0
def tw5164981282953722706:=0
def tw5206090744067662649:=0
def tw5223938368364179144:=0
def tw522652947879952520:=0
def tw5233294426929461991:=0
def tw5289552858619581728:=0
def tw5347166711147081172:=0
def tw5353005956379264138:=0
def tw5367071149434322748:=0
def tw538256132806932120:=0
def tw5396949046594452600:=0
def tw5405303776520031402:=0
def tw5439312941493841538:=0
def tw5485987576051933880:=0
def tw5494402072340192221:=0
def tw5505172374621942565:=0
def tw5528493621041656921:=0
def tw553500696569055706:=0
def tw5559999509092873130:=0
def tw5562878641568491335:=0
def tw5573703827974966397:=0
def tw5612130302041643846:=0
def tw5614627644583786052:=0
def tw5615551144904377815:=0
def tw5622125127525997747:=0
def tw5654964773810879532:=0
def tw5744151770348580122:=0
def tw5745218479899162655:=0
def tw5772665701218957633:=0
def tw5774800384788709080:=0
def tw5775808392672763321:=0
def tw5786651595230760745:=0
def tw5799249533517997631:=0
def tw580397785876324820:=0
def tw5817826365538935506:=0
def tw58274027267563983:=0
def tw584370832483868130:=0
def tw5895325302374406791:=0
def tw5914216617092514265:=0
def tw59146116147853986:=0
def tw5945511888038098100:=0
def tw5954052755811613987:=0
def tw599227845811606395:=0
def tw6014119840654758806:=0
def tw6036664750697854300:=0
def tw6059329576231613674:=0
def tw6069131857140713905:=0
def tw6084901156743432632:=0
def tw6115459596151267616:=0
def tw6140493815242927948:=0
def tw6150467573537163819:=0
def tw6155132626945148404:=0
def tw615959271149766105:=0
def tw6166080860432098619:=0
def tw6221264522422462536:=0
def tw6236657801579103162:=0
def tw6267920199491438635:=0
def tw6270562406419805308:=0
def tw6313590108508360041:=0
def tw6406509632096910674:=0
def tw6434703425934213531:=0
def tw6450598541295995730:=0
def tw6471725308724532995:=0
def tw6482203331539654744:=0
def tw6490164518959482412:=0
def tw6496290971540868716:=0
def tw6521913085601159706:=0
def tw6526463336286809349:=0
def tw652785453327930589:=0
def tw6536450580140401236:=0
def tw6548653396871789471:=0
def tw6610388130670787361:=0
def tw6624730686566243721:=0
def tw6627752984872140284:=0
def tw6699536109076302032:=0
def tw6700403762954375714:=0
def tw6741420326144064476:=0
def tw6787671571817184506:=0
def tw6806567881472110312:=0
def tw6819360968977258640:=0
def tw6832247029525493053:=0
def tw6840363308262628141:=0
def tw6857707553396227200:=0
def tw6897654818326340295:=0
def tw7011517923534867688:=0
def tw7016237775309327595:=0
def tw7016517295459260557:=0
def tw7025335759386383003:=0
def tw7030969251934961447:=0
def tw7112023743179106234:=0
def tw7126620025918751634:=0
def tw7132230935690621214:=0
def tw715154559951979929:=0
def tw7156638768304811988:=0
def tw716541272951726051:=0
def tw7167627596482362149:=0
def tw7173056567075556876:=0
def tw7180435339687924635:=0
def tw7200570232855285938:=0
def tw7219004138081284670:=0
def tw724171901911526696:=0
def tw725905756330853394:=0
def tw7259697575538719968:=0
def tw7298162830416943499:=0
def tw7312115056373661065:=0
def tw7322210315484231703:=0
def tw7340955736729861505:=0
def tw7342105893465459544:=0
def tw7343406258667362023:=0
def tw7361323601642174460:=0
def tw7399057910071455113:=0
def tw7401080905518134987:=0
def tw7442573310677706067:=0
def tw7469638975290675858:=0
def tw7480247694928505060:=0
def tw7480400064647454343:=0
def tw7515679806595594988:=0
def tw7540525375637303138:=0
def tw7564103472875961701:=0
def tw7605550308908509929:=0
def tw7608016899830984505:=0
def tw7633071909178180970:=0
def tw76810453653793767:=0
def tw769600803065941633:=0
def tw7712806902510942806:=0
def tw7754279861473453509:=0
def tw777350739388992128:=0
def tw7775136692085889248:=0
def tw7777702564451968357:=0
def tw779341164544055832:=0
def tw7820328463185296562:=0
def tw7862790639651559524:=0
def tw7895323540013442205:=0
def tw7925034917167476796:=0
def tw7926308180497747583:=0
def tw7954629438246648196:=0
def tw8000798135637238054:=0
def tw8018249613166458417:=0
def tw8031473831947601168:=0
def tw8075240566511687826:=0
def tw809235564719831546:=0
def tw8124384588979123633:=0
def tw8149700804741953519:=0
def tw8176282038055223156:=0
def tw8182715080910902862:=0
def tw8231658136137014701:=0
def tw823707906090964646:=0
def tw8277434737188793315:=0
def tw8343765712540057856:=0
def tw8354008754180713885:=0
def tw838734468836509729:=0
def tw8412388588691978057:=0
def tw8418861672660713954:=0
def tw8441452475219029760:=0
def tw8452795446493634014:=0
def tw8470709401843977335:=0
def tw8473012482999077041:=0
def tw8507272615580284069:=0
def tw8522558391984216365:=0
def tw8540803295857472546:=0
def tw8546690937350338070:=0
def tw8550203508567448004:=0
def tw8570108871942659115:=0
def tw8582183366650728104:=0
def tw8585738111338986741:=0
def tw8691371792215679868:=0
def tw8733297843782054383:=0
def tw8736144311562050035:=0
def tw8742240691456498085:=0
def tw8760045504932755660:=0
def tw8785832963532445994:=0
def tw8826035751451308751:=0
def tw8830103331651132746:=0
def tw8847469088448256728:=0
def tw8931421814504036358:=0
def tw8935123085449029020:=0
def tw8946190989635723549:=0
def tw8965206464582249720:=0
def tw8970542251037359838:=0
def tw8983248142680445022:=0
def tw8983567567531559095:=0
def tw9007848923856821221:=0
def tw9017055173777219205:=0
def tw9052990402032179179:=0
def tw9086599251354048061:=0
def tw9091322931147541026:=0
def tw9202218101236996496:=0
def tw9290587922976980676:=0
def tw938229438116191401:=0
def tw9383993325265454199:=0
def tw9390307950862228193:=0
def tw9394536725847571445:=0
def tw9420242190734669822:=0
def tw9430832157992193827:=0
def tw9440429285618506382:=0
def tw9456389594044600788:=0
def tw9494174966643176102:=0
def tw9546499782782205140:=0
def tw9569405974209970399:=0
def tw9574968131286713723:=0
def tw9588679060746486065:=0
def tw9630542260684441372:=0
def tw9634039950941609563:=0
def tw9647329150141260491:=0
def tw9685439783769397726:=0
def tw9705316088419274043:=0
def tw9716873173799556984:=0
def tw9748566222086787119:=0
def tw9772672592908720633:=0
def tw9789358877873796602:=0
def tw9791747488313121942:=0
def tw9798527150190707738:=0
def tw9826799112175259104:=0
def tw9856022405146530896:=0
def tw986457987318867913:=0
def tw9878557150107660463:=0
def tw9878711249740630626:=0
def tw9923347651424458020:=0
def tw9925491253592316851:=0
def tw9926495695682026217:=0
def tw9944549551389276884:=0
end PySem.W.Fast
local macro_rules | `(tactic| walk_at "def of the top") => `(tactic| (refine' L3.def_mk ?a ?l ?c ?k; (case a => k_is); (case l => k_is); (case c => k_is); (case k => k_is)))
local macro_rules | `(tactic| walk_at "def with a default") => `(tactic| (refine' L3.defD_mk ?a ?l ?e ?c ?k; (case a => k_is); (case l => k_is); (case e => k_is); (case c => k_is); (case k => k_is)))
local macro_rules | `(tactic| walk_at "def of a class") => `(tactic| (refine' L3.min_mk ?l ?c ?k ?n; (case l => k_is); (case c => k_is); (case k => k_is); (case n => k_is)))
local macro_rules | `(tactic| walk_at "class of 2") => `(tactic| (refine' L3.ck_mk ?ns ?g1 ?g2 ?g3 ?g4 ?m1 ?m2 ?m3 ?m4 ?na; (case ns => k_is); (case g1 => k_is); (case g2 => k_is); (case g3 => k_is); (case g4 => k_is); (case m1 => k_is); (case m2 => k_is); (case m3 => k_is); (case m4 => k_is); (case na => (refine' L3.na2 ?x ?y; (case x => k_is); (case y => k_is)))))
local macro_rules | `(tactic| walk_at "class of 3") => `(tactic| (refine' L3.ck_mk ?ns ?g1 ?g2 ?g3 ?g4 ?m1 ?m2 ?m3 ?m4 ?na; (case ns => k_is); (case g1 => k_is); (case g2 => k_is); (case g3 => k_is); (case g4 => k_is); (case m1 => k_is); (case m2 => k_is); (case m3 => k_is); (case m4 => k_is); (case na => (refine' L3.na3 ?x ?y ?z; (case x => k_is); (case y => k_is); (case z => k_is)))))
local macro_rules | `(tactic| walk_at "class of 8") => `(tactic| (refine' L3.ck_mk ?ns ?g1 ?g2 ?g3 ?g4 ?m1 ?m2 ?m3 ?m4 ?na; (case ns => k_is); (case g1 => k_is); (case g2 => k_is); (case g3 => k_is); (case g4 => k_is); (case m1 => k_is); (case m2 => k_is); (case m3 => k_is); (case m4 => k_is); (case na => (refine' L3.na8 ?x ?y ?z ?u ?x1 ?y1 ?z1 ?u1; (case x => k_is); (case y => k_is); (case z => k_is); (case u => k_is); (case x1 => k_is); (case y1 => k_is); (case z1 => k_is); (case u1 => k_is)))))
open PySem PySem.W PyProof.Rows
set_option maxRecDepth 100000 in
set_option maxHeartbeats 0 in
theorem PySem.Challenge.cw_rowsbeneath_k12_programs_written_holds : PySem.Challenge.rw_rowsbeneath_k12_programs_written.Holds := by
  w_on; o_law; k_head; (case hw => w_witness2)
  k_fill
  refine L2.walk_ofK (l := PySem.Challenge.rw_rowsbeneath_k12_programs_written) (n := 63) (k := 9) (x := "_law_script") (CX := L2.CX0) (sp := L3.spLaw) rfl (by decide) rfl ⟨rfl, by decide, by decide⟩ (fun w h Y => PySem.W.kIn_of Y) ?F (fun _ _ a ns hl _ hS => ⟨a, ns, rfl, hS, hl, fun _ => rfl⟩) (fun _ _ _ _ z => z)
  case F =>
    intro w mg fa h KX G hmg
    refine' L3.all_mk KX G hmg ?d0 ?d1 ?d2 ?d3 ?d4 ?d5 ?d6 ?d7 ?d8 ?d9 ?d10 ?d11 ?d12 ?d13 ?d14 ?d15 ?d16 ?d17 ?d18 ?d19 ?d20 ?d21 ?d22 ?d23 ?d24 ?d25 ?d26 ?d27 ?d28 ?d29 ?d30 ?d31 ?d32 ?d33 ?d34 ?d35 ?d36 ?d37 ?d38 ?d39 ?d40 ?d41 ?d42 ?d43 ?d44 ?d45 ?d46 ?dPO ?CR ?IR ?CT ?IT ?CP ?IP ?h_look ?M_look ?h_take ?M_take ?h_need ?M_need ?h_need_name ?M_need_name ?h_need_number ?M_need_number ?h_need_end ?M_need_end ?h_kind_at ?M_kind_at ?h_fields_of ?M_fields_of ?n_MOST_FIGURES ?n_LONGEST_NAME ?n_MOST_ROWS ?n_MOST_TOKENS ?n_MOST_KINDS ?n_MOST_FIELDS ?n_MOST_SETS ?n_MOST_CHOICES ?n_MOST_SIGNS ?n_FIGURES ?n_LETTERS ?n_BELL ?n_GAPS ?n_SINGLE_SIGNS ?n_OWN_WORDS ?q_OWN_WORDS ?n_SORTS ?q_SORTS ?n_ENDS ?q_ENDS ?n_OWN_FAULTS ?q_OWN_FAULTS ?n_DOUBLE_SIGNS ?q_DOUBLE_SIGNS ?z_len ?z_int ?z_max ?z_min ?z_range ?z_isinstance ?z_list ?z_str ?z_bool ?z_tuple ?z_all ?z_dict ?z_enumerate ?z_zip
    (case d0 => walk_at "def of the top")
    (case d1 => walk_at "def of the top")
    (case d2 => walk_at "def of the top")
    (case d3 => walk_at "def of the top")
    (case d4 => walk_at "def of the top")
    (case d5 => walk_at "def of the top")
    (case d6 => walk_at "def of the top")
    (case d7 => walk_at "def of the top")
    (case d8 => walk_at "def of the top")
    (case d9 => walk_at "def of the top")
    (case d10 => walk_at "def of the top")
    (case d11 => walk_at "def of the top")
    (case d12 => walk_at "def of the top")
    (case d13 => walk_at "def of the top")
    (case d14 => walk_at "def of the top")
    (case d15 => walk_at "def of the top")
    (case d16 => walk_at "def of the top")
    (case d17 => walk_at "def of the top")
    (case d18 => walk_at "def of the top")
    (case d19 => walk_at "def of the top")
    (case d20 => walk_at "def of the top")
    (case d21 => walk_at "def of the top")
    (case d22 => walk_at "def of the top")
    (case d23 => walk_at "def of the top")
    (case d24 => walk_at "def of the top")
    (case d25 => walk_at "def of the top")
    (case d26 => walk_at "def of the top")
    (case d27 => walk_at "def of the top")
    (case d28 => walk_at "def of the top")
    (case d29 => walk_at "def of the top")
    (case d30 => walk_at "def of the top")
    (case d31 => walk_at "def of the top")
    (case d32 => walk_at "def of the top")
    (case d33 => walk_at "def of the top")
    (case d34 => walk_at "def of the top")
    (case d35 => walk_at "def of the top")
    (case d36 => walk_at "def of the top")
    (case d37 => walk_at "def of the top")
    (case d38 => walk_at "def of the top")
    (case d39 => walk_at "def of the top")
    (case d40 => walk_at "def of the top")
    (case d41 => walk_at "def of the top")
    (case d42 => walk_at "def of the top")
    (case d43 => walk_at "def of the top")
    (case d44 => walk_at "def of the top")
    (case d45 => walk_at "def of the top")
    (case d46 => walk_at "def of the top")
    (case dPO => walk_at "def with a default")
    (case CR => walk_at "class of 3")
    (case IR => walk_at "def of a class")
    (case CT => walk_at "class of 8")
    (case IT => walk_at "def of a class")
    (case CP => walk_at "class of 2")
    (case IP => walk_at "def of a class")
    (case h_look => k_is)
    (case M_look => walk_at "def of a class")
    (case h_take => k_is)
    (case M_take => walk_at "def of a class")
    (case h_need => k_is)
    (case M_need => walk_at "def of a class")
    (case h_need_name => k_is)
    (case M_need_name => walk_at "def of a class")
    (case h_need_number => k_is)
    (case M_need_number => walk_at "def of a class")
    (case h_need_end => k_is)
    (case M_need_end => walk_at "def of a class")
    (case h_kind_at => k_is)
    (case M_kind_at => walk_at "def of a class")
    (case h_fields_of => k_is)
    (case M_fields_of => walk_at "def of a class")
    (case n_MOST_FIGURES => k_is)
    (case n_LONGEST_NAME => k_is)
    (case n_MOST_ROWS => k_is)
    (case n_MOST_TOKENS => k_is)
    (case n_MOST_KINDS => k_is)
    (case n_MOST_FIELDS => k_is)
    (case n_MOST_SETS => k_is)
    (case n_MOST_CHOICES => k_is)
    (case n_MOST_SIGNS => k_is)
    (case n_FIGURES => k_is)
    (case n_LETTERS => k_is)
    (case n_BELL => k_is)
    (case n_GAPS => k_is)
    (case n_SINGLE_SIGNS => k_is)
    (case n_OWN_WORDS => k_is)
    (case q_OWN_WORDS => refine' L3.sq_own_words ?h; (case h => k_is))
    (case n_SORTS => k_is)
    (case q_SORTS => refine' L3.sq_sorts ?h; (case h => k_is))
    (case n_ENDS => k_is)
    (case q_ENDS => refine' L3.sq_ends ?h; (case h => k_is))
    (case n_OWN_FAULTS => k_is)
    (case q_OWN_FAULTS => refine' L3.sq_own_faults ?h; (case h => k_is))
    (case n_DOUBLE_SIGNS => k_is)
    (case q_DOUBLE_SIGNS => refine' L3.sq_double_signs ?h; (case h => k_is))
    (case z_len => k_is)
    (case z_int => k_is)
    (case z_max => k_is)
    (case z_min => k_is)
    (case z_range => k_is)
    (case z_isinstance => k_is)
    (case z_list => k_is)
    (case z_str => k_is)
    (case z_bool => k_is)
    (case z_tuple => k_is)
    (case z_all => k_is)
    (case z_dict => k_is)
    (case z_enumerate => k_is)
    (case z_zip => k_is)
